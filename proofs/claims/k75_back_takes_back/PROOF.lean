import PyProof.Rows.All
import Wide.All
import OpenK.AllK
import Wide.FinOn
import PyProof.EqAt
import PyProof.EqKinds
import PyProof.TupleCall
import HandS.ForMost
import PyProof.Rows.StrMul
import HandS.Lambda
import HandS.AnyAll
import HandS.EndTab
import HandS.IsInst
import KE.GoesZip
import KE.GoesMore
import HandS.Codes
import KE.DatumOrd
import HandS.Walk
import HandS.Words
import HandS.Nested
import HandS.ExcInit
import HandS.ExcField
import HandS.ExcIs
import HandS.WordsExc
import KE.KExcIs
import HandS.ExcOwn
import HandS.Set
import HandS.SetTxt0
import KE.SortData
import PyProof.ListStr
import HandS.OwnIter
import HandS.IterVal
import HandS.Property
import HandS.MakeKwOnly
import HandS.SortKw
import KE.SortKeyHeap
import HandS.Iter
import HandS.Exc
import HandS.ExcValue
import HandS.DictComp
import HandS.Dict
import KE.GoesEnum
import PyProof.Rows.SetFrom
import PyProof.Rows.StrMeet
import KE.DataMinKey
import HandS.TupLe
import HandS.Style
import PyProof.Rows.StrRev
import HandS.Conv
import KE.SortLaws
import HandS.Wide
import HandS.ExcCtx
import HandS.Rev
import HandS.TupLen
import HandS.FStr
import HandS.Deep
import HandS.SetKeys
import HandS.GenList
import HandS.GenOver
import HandS.StrMore
import PyProof.StrLawsOcc
import HandS.Flow
import PySem.Challenge.RW_lagbound_k75_back_takes_back
set_option Elab.async false
set_option linter.all false
set_option maxRecDepth 100000
set_option maxHeartbeats 4000000
namespace Lb
open PySem PySem.Spec PyProof.Rows L2
/-! ### texts as lists of their signs -/
def cs (x : Str) : List Nat := x.cps.toList
theorem cs_len (x : Str) : (cs x).length = x.length := by
  show x.cps.toList.length = x.cps.size
  rw [Array.length_toList]
theorem cs_ext {x y : Str} (h : cs x = cs y) : x = y := Str.ext' (Array.toList_inj.mp h)
theorem cs_app (x y : Str) : cs (x ++ y) = cs x ++ cs y := by
  show (x.cps ++ y.cps).toList = x.cps.toList ++ y.cps.toList
  rw [Array.toList_append]
theorem cs_one (c : Nat) : cs ⟨#[c]⟩ = [c] := rfl
theorem cs_empty : cs (Str.ofString "") = [] := by decide +kernel
theorem foldl_app (ls : List (Array Nat)) : ∀ a : Array Nat, (ls.foldl (· ++ ·) a).toList = a.toList ++ (ls.map Array.toList).flatten := by
  induction ls with
  | nil => intro a; simp
  | cons x r ih => intro a; rw [List.foldl_cons, ih]; simp
theorem cs_mul (x : Str) (n : Int) : cs (Txt.mul x n) = (List.replicate n.toNat (cs x)).flatten := by
  unfold Txt.mul
  by_cases h1 : n < 1
  · rw [if_pos h1]
    have e : n.toNat = 0 := by omega
    rw [e]
    rfl
  · rw [if_neg h1]
    by_cases h2 : (n == 1 || x.length == 0) = true
    · rw [if_pos h2]
      rw [Bool.or_eq_true, beq_iff_eq, beq_iff_eq] at h2
      rcases h2 with rfl | h2
      · show cs x = (List.replicate 1 (cs x)).flatten
        simp
      · have e : cs x = [] := List.length_eq_zero_iff.mp (by rw [cs_len]; exact h2)
        rw [e]
        simp
    · rw [if_neg h2]
      show ((List.replicate n.toNat x.cps).foldl (· ++ ·) #[]).toList = _
      rw [foldl_app]
      simp [cs]
theorem mem_mul {x : Str} {n : Int} {c : Nat} (h : c ∈ cs (Txt.mul x n)) : c ∈ cs x := by
  rw [cs_mul, List.mem_flatten] at h
  obtain ⟨l, hl, hc⟩ := h
  rw [(List.mem_replicate.mp hl).2] at hc
  exact hc
theorem length_mul (x : Str) (n : Int) : (Txt.mul x n).length = x.length * n.toNat := by
  have e : ∀ k : Nat, ((List.replicate k (cs x)).flatten).length = x.length * k := by
    intro k
    induction k with
    | zero => rfl
    | succ k ih => rw [List.replicate_succ, List.flatten_cons, List.length_append, ih, cs_len, Nat.mul_succ, Nat.add_comm]
  rw [← cs_len, cs_mul]
  exact e _
theorem op_rep_str {X : Cx} : OpR X (binaryOp .Mult) (fun x y H Q => ∃ (i : Str) (n : Int), x = .str i ∧ y = .int n ∧ i.length ≤ 16 ∧ -(2 ^ 62) ≤ n ∧ n ≤ 1048576 ∧ Q (.str (Txt.mul i n)) H) := by
  intro pins s σ H x y v u Q I rx ry h
  obtain ⟨i, n, rfl, rfl, hi, h0, h1, q⟩ := h
  obtain ⟨t, rfl⟩ := rx
  obtain ⟨t', rfl⟩ := ry
  exact SB.mul (mulOk_of 16 1048576 hi h1 (by omega) (by decide) (by decide)) fun t' tk => ⟨.str (Txt.mul i n), H, I.tok _, ⟨_, rfl⟩, q⟩
theorem cs_cut (z : Str) (lo hi : Option Int) : cs (cutS z lo hi) = ((cs z).drop (HT.sIx z.length 0 lo)).take (HT.sIx z.length z.length hi - HT.sIx z.length 0 lo) := rfl
theorem cs_upto (z : Str) (k : Nat) : cs (cutS z none (some (k : Int))) = (cs z).take k := by
  rw [cs_cut, HT.sIx_none, HT.sIx_nat, List.drop_zero, Nat.sub_zero, ← cs_len]
  by_cases h : k ≤ (cs z).length
  · rw [Nat.min_eq_left h]
  · rw [Nat.min_eq_right (by omega), List.take_of_length_le (Nat.le_refl _), List.take_of_length_le (by omega)]
theorem cs_from (z : Str) (k : Nat) : cs (cutS z (some (k : Int)) none) = (cs z).drop k := by
  rw [cs_cut, HT.sIx_none, HT.sIx_nat, ← cs_len]
  by_cases h : k ≤ (cs z).length
  · rw [Nat.min_eq_left h, List.take_of_length_le (by rw [List.length_drop]; omega)]
  · rw [Nat.min_eq_right (by omega), Nat.sub_self, List.take_zero, List.drop_eq_nil_of_le (by omega)]
theorem mem_cut {z : Str} {lo hi : Option Int} {c : Nat} (h : c ∈ cs (cutS z lo hi)) : c ∈ cs z := by
  rw [cs_cut] at h
  exact List.mem_of_mem_drop (List.mem_of_mem_take h)
theorem cs_join0 : ∀ ys : List Str, cs (Txt.join (Str.ofString "") ys) = (ys.map cs).flatten
  | [] => cs_empty
  | [x] => by
    show cs x = ([x].map cs).flatten
    simp
  | x :: y :: r => by
    have e : Txt.join (Str.ofString "") (x :: y :: r) = x ++ Str.ofString "" ++ Txt.join (Str.ofString "") (y :: r) := by
      unfold Txt.join
      first
        | rfl
        | (rw [StrLaws.glued_eq_join, StrLaws.glued_eq_join]; rfl)
    rw [e, cs_app, cs_app, cs_empty, cs_join0 (y :: r)]
    simp
/-- the word's letters are letters of z -/
def Over (z w : Str) : Prop := ∀ c ∈ cs w, c ∈ cs z
theorem Over.app {z x y : Str} (h : Over z x) (k : Over z y) : Over z (x ++ y) := fun c m => by
  rw [cs_app] at m
  rcases List.mem_append.mp m with m | m
  · exact h c m
  · exact k c m
theorem Over.mul {z x : Str} {n : Int} (h : Over z x) : Over z (Txt.mul x n) := fun c m => h c (mem_mul m)
theorem Over.cut {z x : Str} {lo hi : Option Int} (h : Over z x) : Over z (cutS x lo hi) := fun c m => h c (mem_cut m)
theorem Over.one {z : Str} {c : Nat} (h : c ∈ cs z) : Over z ⟨#[c]⟩ := fun d m => by
  rw [cs_one] at m
  rw [List.mem_singleton.mp m]
  exact h
theorem Over.empty {z : Str} : Over z (Str.ofString "") := fun c m => by
  rw [cs_empty] at m
  exact absurd m List.not_mem_nil
theorem length_app (x y : Str) : (x ++ y).length = x.length + y.length := Str.length_append x y
theorem small_text {n : Nat} (h : n ≤ 4000000) : n ≤ sizeLine := Nat.le_trans h (by decide)
end Lb
namespace Lb
open PySem PySem.Spec PyProof.Rows L2
def abc : Str := Str.ofString "abcdefghijklmnopqrstuvwxyz"
theorem cs_abc : cs abc = List.range' 97 26 := by decide +kernel
theorem len_abc : abc.length = 26 := by decide +kernel
/-- one to four letters from a to z, ascending -/
structure IsAlpha (z : Str) : Prop where
  asc : (cs z).Pairwise (· < ·)
  low : ∀ c ∈ cs z, 97 ≤ c ∧ c ≤ 122
  len1 : 1 ≤ z.length
  len4 : z.length ≤ 4
theorem IsAlpha.small {z : Str} (h : IsAlpha z) : z.length ≤ 4000000 := Nat.le_trans h.len4 (by decide)
theorem IsAlpha.nodup {z : Str} (h : IsAlpha z) : (cs z).Nodup := h.asc.imp fun e => Nat.ne_of_lt e
theorem abc_asc : (cs abc).Pairwise (· < ·) := by
  rw [cs_abc]
  exact List.pairwise_lt_range'
theorem abc_low : ∀ c ∈ cs abc, 97 ≤ c ∧ c ≤ 122 := fun c h => by
  rw [cs_abc, List.mem_range'_1] at h
  omega
theorem abc_upto {k : Nat} (h1 : 1 ≤ k) (h4 : k ≤ 4) : IsAlpha (cutS abc none (some (k : Int))) where
  asc := by
    rw [cs_upto]
    exact abc_asc.sublist (List.take_sublist _ _)
  low := fun c h => abc_low c (mem_cut h)
  len1 := by
    rw [← cs_len, cs_upto, List.length_take, cs_len, len_abc]
    omega
  len4 := by
    rw [← cs_len, cs_upto, List.length_take, cs_len, len_abc]
    omega
theorem abc_from {k : Nat} (h1 : 22 ≤ k) (h4 : k ≤ 25) : IsAlpha (cutS abc (some (k : Int)) none) where
  asc := by
    rw [cs_from]
    exact abc_asc.sublist (List.drop_sublist _ _)
  low := fun c h => abc_low c (mem_cut h)
  len1 := by
    rw [← cs_len, cs_from, List.length_drop, cs_len, len_abc]
    omega
  len4 := by
    rw [← cs_len, cs_from, List.length_drop, cs_len, len_abc]
    omega
end Lb

namespace Lb
open PySem PySem.Spec PyProof.Rows L2
/-! ### the text's tables of code objects; what stands while a def runs -/
/-- the tables of the text's defs that make generators or lambdas: where they are, and the name their code objects bear -/
class Tabl where
  T : List (Addr × Str)
  one : ∀ p ∈ T, ∀ q ∈ T, p.1 = q.1 → p.2 = q.2
abbrev Good [Tabl] (H : Hp) : Prop := LamX.Tabs Tabl.T H
/-- no table -/
abbrev NoT (o : HO) : Prop := ∀ ps, o ≠ .tbl ps
/-- a list, a dict, a set or an instance: what a def may change -/
def Mut : HO → Prop
  | .lst _ | .dK _ | .dT _ | .set _ _ | .ins _ _ _ => True
  | _ => False
theorem tabS_upd {H : Hp} {P p : Addr} {q : Str} {o : HO} (t : LamX.TabS H P q) (h : H p = none ∨ ∃ u, H p = some u ∧ Mut u) : LamX.TabS (upd H p o) P q := by
  obtain ⟨ps, h1, h2, h3⟩ := t
  have ne : ∀ b u, H b = some u → ¬ Mut u → b ≠ p := fun b u e m z => by
    rw [z] at e
    rcases h with h | ⟨v, h, k⟩
    · rw [h] at e
      cases e
    · rw [h] at e
      rw [Option.some.inj e] at k
      exact m k
  refine ⟨ps, by rw [upd_ne (ne P _ h1 id)]; exact h1, h2, fun pos cv hc => ?_⟩
  obtain ⟨c, e1, e2⟩ := h3 pos cv hc
  exact ⟨c, e1, by rw [upd_ne (ne c _ e2 id)]; exact e2⟩
section
variable [Tabl]
/-- what stood stands; the tables may have grown -/
structure Same (H H' : Hp) : Prop where
  old : ∀ b o, H b = some o → (_ : NoT o := by intro _ z; cases z) → H' b = some o
  tab : ∀ b ps, H b = some (.tbl ps) → ∃ qs, H' b = some (.tbl qs)
  good : Good H → Good H'
instance {H H' : Hp} : CoeFun (Same H H') fun _ => ∀ b o, H b = some o → (_ : NoT o := by intro _ z; cases z) → H' b = some o := ⟨@Same.old _ H H'⟩
theorem Same.refl (H : Hp) : Same H H := ⟨fun _ _ h _ => h, fun _ ps h => ⟨ps, h⟩, id⟩
theorem Same.trans {H H1 H2 : Hp} (p : Same H H1) (q : Same H1 H2) : Same H H2 :=
  ⟨fun b o h n => q.old b o (p.old b o h n) n, fun b ps h => let ⟨qs, e⟩ := p.tab b ps h; q.tab b qs e, fun g => q.good (p.good g)⟩
theorem Same.free {H H' : Hp} {p : Addr} (s : Same H H') (n : H' p = none) : H p = none := by
  cases e : H p with
  | none => rfl
  | some o =>
    by_cases k : NoT o
    · rw [s.old _ _ e k] at n
      cases n
    · have ⟨ps, z⟩ : ∃ ps, o = .tbl ps := Classical.byContradiction fun c => k fun ps z => c ⟨ps, z⟩
      rw [z] at e
      obtain ⟨qs, e'⟩ := s.tab _ _ e
      rw [e'] at n
      cases n
theorem same_new {H : Hp} {p : Addr} {o : HO} (h : H p = none) : Same H (upd H p o) where
  old b x e _ := by
    rw [upd_ne (ne_of_none e h)]
    exact e
  tab b ps e := ⟨ps, by rw [upd_ne (ne_of_none e h)]; exact e⟩
  good g := fun t ht => tabS_upd (g t ht) (.inl h)
/-- all but the object at a stands -/
structure But (a : Addr) (H H' : Hp) : Prop where
  old : ∀ b o, b ≠ a → H b = some o → (_ : NoT o := by intro _ z; cases z) → H' b = some o
  tab : ∀ b ps, H b = some (.tbl ps) → ∃ qs, H' b = some (.tbl qs)
  good : Good H → Good H'
instance {a : Addr} {H H' : Hp} : CoeFun (But a H H') fun _ => ∀ b o, b ≠ a → H b = some o → (_ : NoT o := by intro _ z; cases z) → H' b = some o := ⟨@But.old _ a H H'⟩
theorem But.refl {a : Addr} (H : Hp) : But a H H := ⟨fun _ _ _ h _ => h, fun _ ps h => ⟨ps, h⟩, id⟩
theorem But.trans {a : Addr} {H H1 H2 : Hp} (p : But a H H1) (q : But a H1 H2) : But a H H2 :=
  ⟨fun b o n h k => q.old b o n (p.old b o n h k) k, fun b ps h => let ⟨qs, e⟩ := p.tab b ps h; q.tab b qs e, fun g => q.good (p.good g)⟩
theorem But.same {a : Addr} {H H' : Hp} (p : Same H H') : But a H H' := ⟨fun b o _ h k => p.old b o h k, p.tab, p.good⟩
theorem But.put {a : Addr} {H : Hp} {o u : HO} (h : H a = some u) (m : Mut u := by trivial) : But a H (upd H a o) where
  old b x n e _ := by
    rw [upd_ne n]
    exact e
  tab b ps e := ⟨ps, by
    rw [upd_ne (fun z => by rw [z, h] at e; rw [Option.some.inj e] at m; exact m)]
    exact e⟩
  good g := fun t ht => tabS_upd (g t ht) (.inr ⟨u, h, m⟩)
theorem But.new {a : Addr} {H : Hp} {p : Addr} {o : HO} (h : H p = none) : But a H (upd H p o) := But.same (same_new h)
theorem But.free {a p : Addr} {H H' : Hp} (s : But a H H') (n : H' p = none) (na : p ≠ a) : H p = none := by
  cases e : H p with
  | none => rfl
  | some o =>
    by_cases k : NoT o
    · rw [s.old _ _ na e k] at n
      cases n
    · have ⟨ps, z⟩ : ∃ ps, o = .tbl ps := Classical.byContradiction fun c => k fun ps z => c ⟨ps, z⟩
      rw [z] at e
      obtain ⟨qs, e'⟩ := s.tab _ _ e
      rw [e'] at n
      cases n
/-- a new object, changed since: what stood stands -/
theorem But.grown {a p : Addr} {H H1 H2 : Hp} {o u : HO} (b1 : But a H H1) (n : H1 p = none) (b2 : But a H H2) (h : H2 p = some u) (m : Mut u := by trivial) : But a H (upd H2 p o) where
  old b x hb e k := by
    rw [upd_ne (fun z => by rw [z] at e hb; rw [b1.old _ _ hb e k] at n; cases n)]
    exact b2.old b x hb e k
  tab b ps e := by
    obtain ⟨qs, e'⟩ := b2.tab b ps e
    exact ⟨qs, by rw [upd_ne (fun z => by rw [z, h] at e'; rw [Option.some.inj e'] at m; exact m)]; exact e'⟩
  good g := fun t ht => tabS_upd (b2.good g t ht) (.inr ⟨u, h, m⟩)
/-- a new object, made since and changed: what stood stands -/
theorem Same.grown {p : Addr} {H H1 H2 : Hp} {o u : HO} (b1 : Same H H1) (n : H1 p = none) (b2 : Same H H2) (h : H2 p = some u) (m : Mut u := by trivial) : Same H (upd H2 p o) where
  old b x e k := by
    rw [upd_ne (fun z => by rw [z] at e; rw [b1.old _ _ e k] at n; cases n)]
    exact b2.old b x e k
  tab b ps e := by
    obtain ⟨qs, e'⟩ := b2.tab b ps e
    exact ⟨qs, by rw [upd_ne (fun z => by rw [z, h] at e'; rw [Option.some.inj e'] at m; exact m)]; exact e'⟩
  good g := fun t ht => tabS_upd (b2.good g t ht) (.inr ⟨u, h, m⟩)
/-- a table has grown by a new code object of the name that it bears -/
theorem same_code {H : Hp} {P c : Addr} {q : Str} {ps : Array Value} {pos : Pos} (tab : H P = some (.tbl ps)) (tri : TriplesOk ps.toList) (bears : ∀ (pos : Pos) (cv : Value), codeAmong pos ps.toList = some cv → ∃ c, cv = .ref c ∧ H c = some (LamX.CodeO c q)) (nC : H c = none) (hm : (P, q) ∈ Tabl.T) :
    Same H (upd (upd H P (.tbl (ps ++ #[rawInt pos.line, rawInt pos.col, .ref c]))) c (LamX.CodeO c q)) := by
  have keep : ∀ b o, H b = some o → NoT o → upd (upd H P (.tbl (ps ++ #[rawInt pos.line, rawInt pos.col, .ref c]))) c (LamX.CodeO c q) b = some o := fun b o e n => by
    rw [upd_ne (ne_of_none e nC), upd_ne (fun z => n ps (Option.some.inj (e.symm.trans (by rw [z]; exact tab))))]
    exact e
  have list : (ps ++ #[rawInt pos.line, rawInt pos.col, Value.ref c]).toList = ps.toList ++ [rawInt pos.line, rawInt pos.col, .ref c] := by simp
  refine ⟨keep, fun b qs e => ?_, fun g p hp => ?_⟩
  · by_cases z : b = P
    · exact ⟨_, by rw [z, upd_ne (ne_of_none tab nC), upd_same]⟩
    · exact ⟨qs, by rw [upd_ne (ne_of_none e nC), upd_ne z]; exact e⟩
  · by_cases z : p.1 = P
    · have e2 : p.2 = q := Tabl.one _ hp _ hm z
      rw [z, e2]
      refine ⟨_, by rw [upd_ne (ne_of_none tab nC), upd_same], by rw [list]; exact PySem.TriplesOk_snoc _ _ _ _ tri, fun p' cv h => ?_⟩
      rw [list] at h
      rcases LamX.among_app _ tri h with k | k
      · obtain ⟨c0, e1, e2⟩ := bears p' cv k
        exact ⟨c0, e1, keep _ _ e2 LamX.codeO_ne⟩
      · exact ⟨c, k, upd_same⟩
    · obtain ⟨qs, a1, a2, a3⟩ := g p hp
      refine ⟨qs, by rw [upd_ne (ne_of_none a1 nC), upd_ne z]; exact a1, a2, fun p' cv h => ?_⟩
      obtain ⟨c0, e1, e2⟩ := a3 p' cv h
      exact ⟨c0, e1, keep _ _ e2 LamX.codeO_ne⟩
end
end Lb

namespace Lb
open PySem PySem.Spec PyProof.Rows L2
/-- the tables of the text's defs are empty when the law is called -/
def Empty (names : List Str) (K : PySem.W.Frag) (mg : Str → Option Value) (h : Heap) : Prop :=
  ∀ (x : Str) (f c P : Addr) (o : Obj) (fd : FuncData) (e : Value) (dd : Option Addr) (vs : Array Value) (sl : Array (Option Value)), x ∈ names → mg x = some (.ref f) → K.lookup f = some o → o.data = .func fd → fd.code = .ref c →
    K.lookup c = some ⟨e, dd, .fields vs, sl⟩ → vs[11]? = some (.ref P) → h.get? P = some { cls := .none, data := .fields #[] }
/-- the law: called with at most 63 ints it answers True -/
def sp_law [Tabl] (K : PySem.W.Frag) : Sp := fun vs H Q _ => ∃ (a : Addr) (ns : List Int), vs = [.ref a] ∧ SqL K H a (ns.map V.int) ∧ ns.length ≤ 63 ∧ Good H ∧ ∀ H', Q (.bl true) H'
theorem walk_tabs {l : PySem.W.OpenLaw} {n k : Nat} {q : Program} {loose : List Str} {XP : (Str → Option Value) → Heap → Prop} {YP : World → Heap → Prop} {d : DefRec} {K : Params → PySem.W.Frag} {CX : World → CXT} {x : Str} (most : l.most = some n) (small : n ≤ sizeLine) (plain : d.params.defaults = []) (room : Room k callerA)
    (inK : ∀ (w : World) (h : Heap), YP w h → (K w.params).In h) (F : ∀ (w : World) (mg : Str → Option Value) (fa : Addr) (h : Heap), (K w.params).In h → h.Ns mainGlobals mg → mg d.name = some (.ref fa) → Empty ((recsOf q).map (·.name)) (K w.params) mg h → LamX.LawAtS l w (K w.params) (CX w) k n x mg fa h)
    (none_out : ∀ (w : World) (H : Hp) (s : Shared) (e : Value) (s' : Shared), ¬ CX w [] H s (fun _ _ _ => False) e s') : PySem.W.WalkO q loose XP YP l.row.toRowW d [] (fun f vs => PySem.call f vs) := by
  refine Att.attach_callB most plain fun w s0 s mg mb fa o pm cd doc a vs ns G Y ho hd hcd global obj its len bits gens => ?_
  have KX := inK w _ Y
  have E : Empty ((recsOf q).map (·.name)) (K w.params) mg s.heap := fun y f c P o1 fd1 e dd vs1 sl hy k1 k2 k3 k4 k5 k6 => by
    obtain ⟨r, hr, er⟩ := List.mem_map.mp hy
    obtain ⟨_, _, _, _, _, t1, t2, t3, t4, t5, ⟨oc, vc, u1, _, u3, u4⟩, t6⟩ := G.T.tab r hr
    rw [show r.name = y from er, k1] at t1
    cases t1
    cases (KX _ _ k2).symm.trans t2
    cases k3.symm.trans t3
    cases k4.symm.trans t4
    cases (KX _ _ k5).symm.trans u1
    cases u3
    cases k6.symm.trans u4
    exact t6
  obtain ⟨fd, cs, sp, c1, c2, c3, c4, c5, c6⟩ := F w mg fa _ KX G.T.g global E
  exact LamX.law_callTs KX G.T.g G.T.b G.T.builtins G.T.nolimit gens c1 c2 c3 G.T.bmain obj its (Nat.le_trans len small) room c6 c4 (fun H e hS => c5 H a ns len bits e hS) fun H e s' z => none_out w H s e s' z
end Lb

namespace Lb
open PySem PySem.Spec PyProof.Rows L2
/-! ### plain values by their outermost kind -/
def NoTxt (H : Hp) (v : V) : Prop := v = .non ∨ (∃ b, v = .bl b) ∨ (∃ i, v = .int i) ∨ ∃ p xs, v = .ref p ∧ (H p = some (.lst xs) ∨ H p = some (.tup xs))
def Shal (H : Hp) (v : V) : Prop := (∃ x : Str, v = .str x ∧ x.length ≤ 4000000) ∨ NoTxt H v
theorem NoTxt.same [Tabl] {H H' : Hp} {v : V} (h : NoTxt H v) (s : Same H H') : NoTxt H' v := by
  rcases h with h | h | h | ⟨p, xs, e, h⟩
  · exact .inl h
  · exact .inr (.inl h)
  · exact .inr (.inr (.inl h))
  · exact .inr (.inr (.inr ⟨p, xs, e, h.elim (fun q => .inl (s _ _ q)) fun q => .inr (s _ _ q)⟩))
theorem Shal.same [Tabl] {H H' : Hp} {v : V} (h : Shal H v) (s : Same H H') : Shal H' v := h.elim .inl fun q => .inr (q.same s)
theorem shal_str {H : Hp} {x : Str} (h : x.length ≤ 4000000) : Shal H (.str x) := .inl ⟨x, rfl, h⟩
theorem shal_int {H : Hp} {i : Int} : Shal H (.int i) := .inr (.inr (.inr (.inl ⟨i, rfl⟩)))
theorem noTxt_str {H : Hp} {x : Str} (h : NoTxt H (.str x)) : False := by
  rcases h with h | ⟨b, h⟩ | ⟨i, h⟩ | ⟨p, xs, h, _⟩ <;> cases h
def isStr : V → Bool
  | .str _ => true
  | _ => false
def isInt : V → Bool
  | .int _ => true
  | _ => false
def isBl : V → Bool
  | .bl _ => true
  | _ => false
/-- isinstance(v, str) -/
theorem isi_str {K : PySem.W.Frag} {H : Hp} {v : V} (h : Shal H v) : ∃ t : Value, TyX K H v t ∧ PySem.W.kitOne K t (.type "str") = some (isStr v) := by
  rcases h with ⟨x, rfl, _⟩ | rfl | ⟨b, rfl⟩ | ⟨i, rfl⟩ | ⟨p, xs, rfl, h | h⟩
  · exact ⟨_, .base (.str x), kit_ty (show kitB "str" "str" = some true by decide +kernel)⟩
  · exact ⟨_, .base .non, kit_ty (show kitB "NoneType" "str" = some false by decide +kernel)⟩
  · exact ⟨_, .base (.bl b), kit_ty (show kitB "bool" "str" = some false by decide +kernel)⟩
  · exact ⟨_, .base (.int i), kit_ty (show kitB "int" "str" = some false by decide +kernel)⟩
  · exact ⟨_, .base (.lst h), kit_ty (show kitB "list" "str" = some false by decide +kernel)⟩
  · exact ⟨_, .base (.tup h), kit_ty (show kitB "tuple" "str" = some false by decide +kernel)⟩
/-- isinstance(v, int) -/
theorem isi_int {K : PySem.W.Frag} {H : Hp} {v : V} (h : Shal H v) : ∃ t : Value, TyX K H v t ∧ PySem.W.kitOne K t (.type "int") = some (isInt v || isBl v) := by
  rcases h with ⟨x, rfl, _⟩ | rfl | ⟨b, rfl⟩ | ⟨i, rfl⟩ | ⟨p, xs, rfl, h | h⟩
  · exact ⟨_, .base (.str x), kit_ty (show kitB "str" "int" = some false by decide +kernel)⟩
  · exact ⟨_, .base .non, kit_ty (show kitB "NoneType" "int" = some false by decide +kernel)⟩
  · exact ⟨_, .base (.bl b), kit_ty (show kitB "bool" "int" = some true by decide +kernel)⟩
  · exact ⟨_, .base (.int i), kit_ty (show kitB "int" "int" = some true by decide +kernel)⟩
  · exact ⟨_, .base (.lst h), kit_ty (show kitB "list" "int" = some false by decide +kernel)⟩
  · exact ⟨_, .base (.tup h), kit_ty (show kitB "tuple" "int" = some false by decide +kernel)⟩
/-- isinstance(v, bool) -/
theorem isi_bool {K : PySem.W.Frag} {H : Hp} {v : V} (h : Shal H v) : ∃ t : Value, TyX K H v t ∧ PySem.W.kitOne K t (.type "bool") = some (isBl v) := by
  rcases h with ⟨x, rfl, _⟩ | rfl | ⟨b, rfl⟩ | ⟨i, rfl⟩ | ⟨p, xs, rfl, h | h⟩
  · exact ⟨_, .base (.str x), kit_ty (show kitB "str" "bool" = some false by decide +kernel)⟩
  · exact ⟨_, .base .non, kit_ty (show kitB "NoneType" "bool" = some false by decide +kernel)⟩
  · exact ⟨_, .base (.bl b), kit_ty (show kitB "bool" "bool" = some true by decide +kernel)⟩
  · exact ⟨_, .base (.int i), kit_ty (show kitB "int" "bool" = some false by decide +kernel)⟩
  · exact ⟨_, .base (.lst h), kit_ty (show kitB "list" "bool" = some false by decide +kernel)⟩
  · exact ⟨_, .base (.tup h), kit_ty (show kitB "tuple" "bool" = some false by decide +kernel)⟩
theorem isStr_of {v : V} (h : isStr v = true) : ∃ x, v = .str x := by
  cases v <;> first | exact ⟨_, rfl⟩ | cases h
theorem isInt_of {v : V} (h : isInt v = true) : ∃ x, v = .int x := by
  cases v <;> first | exact ⟨_, rfl⟩ | cases h
theorem Shal.text {H : Hp} {x : Str} (h : Shal H (.str x)) : x.length ≤ 4000000 := by
  rcases h with ⟨y, e, l⟩ | h
  · cases e
    exact l
  · exact (noTxt_str h).elim
end Lb

namespace L2
open PySem PySem.Spec PyProof.Rows
/-! zip of two texts, walked by a for: the pairs of their signs, as many as the shorter one has -/
def Itzs (x y : Str) : It :=
  ⟨fun i _ => i < x.cps.size ∧ i < y.cps.size,
    fun i H v H' => ∃ T c d, v = .ref T ∧ H T = none ∧ x.cps[i]? = some c ∧ y.cps[i]? = some d ∧ H' = upd H T (.tup [.str ⟨#[c]⟩, .str ⟨#[d]⟩]),
    fun i _ => i ≤ x.cps.size ∧ i ≤ y.cps.size ∧ (i = x.cps.size ∨ i = y.cps.size)⟩
def iZipS (ta : TA) : TI := fun σ H R => ta σ H fun vs H1 => ∃ x y, vs = [.str x, .str y] ∧ R (Itzs x y) H1
end L2
namespace L2
open PySem PySem.Spec PyProof.Rows
end L2

namespace Lb
/-! ### lags -/
def lcp : List Nat → List Nat → Nat
  | a :: x, b :: y => if a = b then lcp x y + 1 else 0
  | _, _ => 0
def IsLag (a b u v : List Nat) : Prop := ∃ f, a = f ++ u ∧ b = f ++ v ∧ (u = [] ∨ v = [] ∨ u.head? ≠ v.head?)
theorem IsLag.swap {a b u v : List Nat} (h : IsLag a b u v) : IsLag b a v u := by
  obtain ⟨f, e1, e2, e3⟩ := h
  refine ⟨f, e2, e1, ?_⟩
  rcases e3 with e | e | e
  · exact .inr (.inl e)
  · exact .inl e
  · exact .inr (.inr fun z => e z.symm)
/-- moved on -/
theorem IsLag.more {a b u v x y u' v' : List Nat} (h : IsLag a b u v) (k : IsLag (u ++ x) (v ++ y) u' v') : IsLag (a ++ x) (b ++ y) u' v' := by
  obtain ⟨f, e1, e2, e3⟩ := h
  obtain ⟨g, d1, d2, d3⟩ := k
  refine ⟨f ++ g, ?_, ?_, d3⟩
  · rw [e1, List.append_assoc, d1, List.append_assoc]
  · rw [e2, List.append_assoc, d2, List.append_assoc]
theorem IsLag.le {a b u v : List Nat} (h : IsLag a b u v) : u.length ≤ a.length ∧ v.length ≤ b.length := by
  obtain ⟨f, e1, e2, e3⟩ := h
  rw [e1, e2, List.length_append, List.length_append]
  omega
end Lb

namespace Lb
open PySem PySem.Spec PyProof.Rows L2
/-! ### the store that the draws come from -/
/-- the draws' store at a, its cells at c -/
def Sto (H : Hp) (a c : Addr) : Prop := ∃ (ns : List Int) (i b t s : Int), H a = some (.lst [.ref c, .int i, .int b, .int t, .int s]) ∧ H c = some (.lst (ns.map V.int)) ∧ 0 ≤ i ∧ c ≠ a
theorem Sto.to {H H' : Hp} {a c : Addr} (h : Sto H a c) (e1 : H' a = H a) (e2 : H' c = H c) : Sto H' a c := by
  obtain ⟨ns, i, b, t, s, h1, h2, h3, h4⟩ := h
  exact ⟨ns, i, b, t, s, e1.trans h1, e2.trans h2, h3, h4⟩
theorem Sto.same [Tabl] {H H' : Hp} {a c : Addr} (h : Sto H a c) (e : Same H H') : Sto H' a c := by
  obtain ⟨ns, i, b, t, s, h1, h2, h3, h4⟩ := h
  exact ⟨ns, i, b, t, s, e _ _ h1, e _ _ h2, h3, h4⟩
theorem Sto.new {H : Hp} {a c p : Addr} {o : HO} (h : Sto H a c) (e : H p = none) : Sto (upd H p o) a c := by
  obtain ⟨ns, i, b, t, s, h1, h2, h3, h4⟩ := h
  exact ⟨ns, i, b, t, s, by rw [upd_ne (ne_of_none h1 e)]; exact h1, by rw [upd_ne (ne_of_none h2 e)]; exact h2, h3, h4⟩
theorem Sto.ne {H : Hp} {a c p : Addr} (h : Sto H a c) (e : H p = none) : p ≠ a ∧ p ≠ c := by
  obtain ⟨ns, i, b, t, s, h1, h2, h3, h4⟩ := h
  exact ⟨fun z => (by rw [z, h1] at e; cases e), fun z => (by rw [z, h2] at e; cases e)⟩
theorem Sto.put {H : Hp} {a c p : Addr} {o : HO} (h : Sto H a c) (n : p ≠ a ∧ p ≠ c) : Sto (upd H p o) a c :=
  h.to (upd_ne (Ne.symm n.1)) (upd_ne (Ne.symm n.2))
theorem ints_at {ns : List Int} {i : Int} (h0 : 0 ≤ i) (h1 : i < ((ns.map V.int).length : Nat)) : ∃ n, atI (ns.map V.int) i = some (.int n) := by
  obtain ⟨j, rfl⟩ := Int.eq_ofNat_of_zero_le h0
  have hj : j < ns.length := by
    rw [List.length_map] at h1
    exact Int.ofNat_lt.mp h1
  exact ⟨ns[j], atI_nat (by rw [List.getElem?_map, List.getElem?_eq_getElem hj]; rfl)⟩
theorem ne1 {P : Prop} [Decidable P] (h : P) : decide P = true := decide_eq_true h
theorem ne0 {P : Prop} [Decidable P] (h : ¬ P) : decide P = false := decide_eq_false h
theorem iteC {c : Bool} {A B : Prop} (h : c = true) (a : A) : if c = true then A else B := by
  rw [if_pos h]
  exact a
theorem iteN {c : Bool} {A B : Prop} (h : c = false) (b : B) : if c = true then A else B := by
  rw [h]
  exact iteF b
/-- a row that is not come to -/
theorem ps_dead {X : Cx} {s : Stmt} : PS X s (fun _ _ _ => False) := ⟨fun _ _ _ _ _ _ h => h.elim⟩
end Lb

namespace L2
open PySem PySem.Spec PyProof.Rows
/-! min, max of a list of texts -/
def rMinS (K : PySem.W.Frag) : List V → Hp → VK → Prop := fun vs H Q => ∃ (a : Addr) (x : Str) (xs : List Str), vs = [V.ref a] ∧ SqL K H a ((x :: xs).map V.str) ∧ Q (.str (PySem.W.minOf x xs)) H
def rMaxS (K : PySem.W.Frag) : List V → Hp → VK → Prop := fun vs H Q => ∃ (a : Addr) (x : Str) (xs : List Str), vs = [V.ref a] ∧ SqL K H a ((x :: xs).map V.str) ∧ Q (.str (PySem.W.maxOf x xs)) H
/-! rules that name the written part: for the inside of a comprehension -/
theorem ix_listK {X : Cx} (K : PySem.W.Frag) (h : X.K = K) : IxR X (rIxL K) := by
  subst h
  exact ix_list
theorem ix_tupK {X : Cx} (K : PySem.W.Frag) (h : X.K = K) : IxR X (rIxT K) := by
  subst h
  exact ix_tup
theorem call_len_seqK {X : Cx} (K : PySem.W.Frag) (h : X.K = K) : CallR X (.builtin "len") (fun xs H Q => ∃ p ys, xs = [.ref p] ∧ (SqL K H p ys ∨ SqT K H p ys) ∧ Q (.int ys.length) H) := by
  subst h
  exact call_len_seq
end L2

namespace Lb
open PySem PySem.Spec PyProof.Rows L2
/-- a def of the text, its code object at c -/
structure FunC (K : PySem.W.Frag) (x qual : Str) (st : Stmt) (f : Addr) (fd : FuncData) (c : Addr) : Prop where
  F : Fun K x qual st f fd
  code : fd.code = .ref c
theorem FunC.ok {P : Program} {w : World} {K : PySem.W.Frag} {mg : Str → Option Value} {base : Heap} {x qual : Str} {st : Stmt} {f c : Addr} {fd : FuncData} {N ps : List Str} {k : Nat} {sp : Sp} (F : FunC K x qual st f fd c) (S : FnScope N ps (defScope st)) (len : ∀ vs H Q E, sp vs H Q E → vs.length = ps.length)
    (body : ∀ (A : Around) (outer : List Env) (s : Shared) (H : Hp) (vs : List V) (Q : VK) (E : XK), Room k (A.deeper (envOfC qual (defScope st) s.heap.objs.size f (.ref c))) → sp vs H Q E → ∃ t, PSs (cxOf CX0 P w K mg base N qual (defScope st) f (.ref c) A outer s H E).nox (defBody st) t ∧ t { nx := fun _ H' => Q .non H', rt := Q } (start N vs) H) :
    FnOk P w K mg base CX0 (k + 1) f fd ps sp := by
  obtain ⟨⟨⟨_, _, _, _, _, _, cdv, _, _, e, l, cd⟩, _⟩, code⟩ := F
  rw [e] at code
  have ec : cdv = .ref c := code
  rw [e] at l ⊢
  rw [ec] at l cd ⊢
  exact fn_of l cd S len fun A outer s H vs Q E hr hs => let ⟨t, h, q⟩ := body A outer s H vs Q E hr hs; ⟨t, h.nox, q⟩
theorem FunC.kp {K : PySem.W.Frag} {x qual : Str} {st : Stmt} {f c : Addr} {fd : FuncData} (F : FunC K x qual st f fd c) : PySem.W.keepIn K (.ref f) = true := F.F.kp
end Lb

namespace GQ
open PySem PySem.Spec PyProof.Rows L2 GxR
open Lb (Tabl Good)
/-! ### all(.. for x in e), any(..) over a text e, where the test looks at names of the def or of the module
`Elt`: what the test is worth for the sign c in the generator's own frame; h1 is the heap behind e, and all of it but the table at P stands there -/
def Elt (X : Cx) (P : Addr) (h1 : Heap) (scope : Scope) (x : Str) (elt : Expr) (pb : Nat → Bool) : Prop :=
  ∀ (env : Env) (A' : Around) (E' : Value → Shared → Prop) (c : Nat) (t : Tok) (r : Shared) (m : Str → Option Value), env.scope = scope → env.cells = cloFrom X.env.cells scope.names [] → env.globals = X.env.globals → A'.handled = none →
    r.heap.Ns env.locals m → m x = some (.str ⟨#[c]⟩ t) → (∀ b u, b ≠ P → h1.get? b = some u → r.heap.get? b = some u) → wpAny (model X.prog X.w) A' (eval elt env) (fun y r' => y = .bool (pb c) ∧ Keeps r r') E' r
/-- the walk over the signs: the i-th answer -/
def Ans (pb : Nat → Bool) (a : Str) : Nat → Value → Prop := fun i y => ∃ cc, a.cps[i]? = some cc ∧ y = .bool (pb cc)
theorem ans_truth {prog : Program} {w : World} {A : Around} {pb : Nat → Bool} {a : Str} {n : Nat} (hn : n = a.cps.size) :
    TruthOf prog w A (fun j y => ∃ i, (List.range n)[j]? = some i ∧ Ans pb a i y) (trF pb a.cps.toList) := by
  intro j y sj Qj Ej hy hq
  obtain ⟨i, hij, cc, hcc, rfl⟩ := hy
  have hj : j < (List.range n).length := (List.getElem?_eq_some_iff.mp hij).1
  rw [List.getElem?_eq_getElem hj, List.getElem_range] at hij
  cases hij
  have ht : a.cps.toList[j]? = some cc := (Array.getElem?_toList ..).trans hcc
  have hq' : Qj (trF pb a.cps.toList j) sj := hq
  rw [trF_some ht] at hq'
  exact wpAny_truthy_bool hq'
section
variable {X : Cx} {pins : List (Addr × Obj)} {σ : L2.St} {H : Hp} {s : Shared}
variable [Tabl]
/-- the generator over the signs of a, ready to be walked in the state s5 -/
def GoesOver (X : Cx) (pins : List (Addr × Obj)) (σ : L2.St) (H1 : Hp) (a : Str) (pb : Nat → Bool) (g : Addr) (s5 : Shared) : Prop :=
  ∃ (fp wr : List Addr) (G : Array GenState → Array GenState → Prop) (F : Nat → Value → Prop) (St : Nat → Shared → Prop), WalksS X.prog X.w X.A.in1 g fp wr G a.cps.size F St ∧ St 0 s5 ∧ TruthOf X.prog X.w X.A.in1 F (trF pb a.cps.toList) ∧
    ∀ s', Moved wr G s5 s' → ∃ H2, Lb.Same H1 H2 ∧ Inv X pins σ H2 s'
theorem gen_txt {c P : Addr} {elt iter : Expr} {x : Str} {px gpos : Pos} {scope : Scope} {te : TE} {k : Nat} {Q' : Value → Shared → Prop} {R : Str → (Nat → Bool) → Hp → Prop} {Cn : L2.St → Hp → (Nat → Bool) → Prop}
    (hr : Room k X.A) (TB : LamX.TabB X.base X.mg c P) (hmem : (P, X.env.qual ++ "<genexpr>") ∈ Tabl.T) (hcode : X.env.code = .ref c) (S : GenS X.env scope x) (hi : PE X iter te)
    (hel : ∀ (σ : L2.St) (H1 : Hp) (s1 : Shared) (pb : Nat → Bool), Inv X pins σ H1 s1 → Good H1 → Cn σ H1 pb → Elt X P s1.heap scope x elt pb) (hs : ∀ v, genFold iter X.env v = pure v) (I : Inv X pins σ H s)
    (h : te σ H fun v H1 => ∃ (a : Str) (pb : Nat → Bool), v = .str a ∧ Good H1 ∧ Cn σ H1 pb ∧ R a pb H1)
    (hQ : ∀ a pb H1 g s5, R a pb H1 → GoesOver X pins σ H1 a pb g s5 → Q' (.ref g) s5) :
    wpAny (model X.prog X.w) X.A (eval (.GeneratorExp elt [⟨.Name x px, iter, [], 0⟩] scope gpos) X.env) Q' X.xe s := by
  have hd := hr.dp
  refine wpAny_GeneratorExp_walksQ hr.hd S.co (closure_ok S.free) S.cell S.dot S.loc S.kind (by omega) ?_ hs
  refine thn (hi.run pins s σ H _ I h) fun xv s1 hx1 => ?_
  obtain ⟨v, H1, I1, r1, a, pb, rfl, good, cn, rr⟩ := hx1
  obtain ⟨ps, tabP, tri, bears⟩ := good _ hmem
  obtain ⟨tk0, rfl⟩ := _root_.id r1
  have E1 := hel σ H1 s1 pb I1 good cn
  refine wpAny_pyIter_str fun io St W st0 => ?_
  -- the heap with the iterator: hp
  have oldP : s1.heap.get? P = some { cls := .none, data := .fields ps } := I1.hok P _ tabP
  have ltP : P < s1.heap.objs.size := Heap.lt_size oldP
  have nowP : (s1.heap.push io).get? P = some { cls := .none, data := .fields ps } := Heap.get?_push_of_some _ oldP
  have codeH : PySem.W.CodeHd (s1.heap.push io) c P := TB.code.keeps fun b u e => Heap.get?_push_of_some _ (I1.bk b u e)
  have nolim : (s1.heap.push io).NoLimit := I1.nolimit.push io
  have szp : (s1.heap.push io).objs.size = s1.heap.objs.size + 1 := Heap.size_push ..
  refine ⟨nolim, ?_⟩
  -- what is owed once the code object is there: h3, its table ps3
  have owed : ∀ (code : Value) (h3 : Heap) (tk : Nat) (ps3 : Array Value), Heap.ExtBut P (s1.heap.push io) h3 → (s1.heap.push io).objs.size ≤ h3.objs.size → h3.get? P = some { cls := .none, data := .fields ps3 } → (∀ (s' : Shared), (∀ b u, b ≠ P → s1.heap.get? b = some u → s'.heap.get? b = some u) → s'.heap.get? P = some { cls := .none, data := .fields ps3 } → (∀ b u, s1.heap.objs.size < b → b < h3.objs.size → h3.get? b = some u → s'.heap.get? b = some u) → AllBare s'.gens → s'.os = s1.os → ∃ H2, Lb.Same H1 H2 ∧ Inv X pins σ H2 s') →
      wpAny (model X.prog X.w) X.A (builtinsFor X.env.globals X.env.builtins) (fun bi s₄ =>
        ∃ Ia fp wr n₀ Pf St₀ pz F, Value.ref s1.heap.objs.size = .ref Ia ∧ (∀ A' : Around, A'.handled = none → Walks X.prog X.w A' Ia fp wr n₀ Pf St₀) ∧ St₀ 0 s₄.heap ∧ (∀ b ∈ fp, b < s₄.heap.objs.size) ∧ s₄.heap.NoLimit ∧ cStatics ∉ wr ∧
          (∀ href : Heap, (∀ b o, s₄.heap.get? b = some o → href.get? b = some o) →
            QuietGen X.prog X.w (genEnv scope (cloFrom X.env.cells scope.names []) s₄.heap.objs.size code bi X.env) x [] elt (List.range s₄.heap.objs.size) wr Pf pz F href) ∧
          (∀ ga h₅ tk gs, gs.bare = true → s₄.heap.objs.size < ga → h₅.objs.size = ga + 1 → (∀ b o, s₄.heap.get? b = some o → h₅.get? b = some o) →
            WalksS X.prog X.w X.A.in4 ga (ga :: s₄.heap.objs.size :: List.range s₄.heap.objs.size) (s₄.heap.objs.size :: wr) (GenOnlyQ s₄.gens.size) (passing pz n₀ 0).length
              (fun j y => ∃ i, (passing pz n₀ 0)[j]? = some i ∧ F i y) (GenAt X.prog X.w X.A.in4 ga s₄.gens.size s₄.heap.objs.size (List.range s₄.heap.objs.size) wr pz n₀ F) →
            GenAt X.prog X.w X.A.in4 ga s₄.gens.size s₄.heap.objs.size (List.range s₄.heap.objs.size) wr pz n₀ F 0 { s₄ with gens := s₄.gens.push gs, toks := tk, heap := h₅ } →
            Q' (.ref ga) { s₄ with gens := s₄.gens.push gs, toks := tk, heap := h₅ })) X.xe { s1 with heap := h3, toks := tk } := by
    intro code h3 tk ps3 ext3 sz3 at3 fin
    obtain ⟨bm, ob, b1, b2, b3, b4, b5, b6, b7, b8⟩ := TB.bm
    have stat : cStatics < s1.heap.objs.size ∧ cStatics ≠ P := by
      obtain ⟨_, hns, _⟩ := I1.nolimit
      refine ⟨hns.lt, fun e => ?_⟩
      obtain ⟨o', es, ep, ho, hdt, _⟩ := hns
      rw [e, oldP] at ho
      cases ho
      cases hdt
    have kept : ∀ b u, b ≠ P → s1.heap.get? b = some u → h3.get? b = some u := fun b u hb e => ext3 b u hb (Heap.get?_push_of_some _ e)
    have glob3 : h3.Ns X.env.globals X.mg := by
      rw [I1.ok.glob]
      exact ((I1.mod.glob.keeps I1.bk).push io).extBut ext3 TB.gP
    refine wpAny_builtinsFor (m := X.mg) glob3 b1 b2 (kept _ _ b4 (I1.bk _ _ b5)) b6 b7 b8 ?_
    have itlt : s1.heap.objs.size < h3.objs.size := by omega
    refine ⟨s1.heap.objs.size, [s1.heap.objs.size], [s1.heap.objs.size], a.cps.size, SignAt a, St, (fun _ => true), Ans pb a, rfl, W, ?_, fun b hb => ?_, nolim.extBut ext3 stat.2, fun z => ?_, fun href hold => ?_, ?_⟩
    · refine (W X.A hr.hd).frame _ _ _ st0 fun b hb u e => ext3 b u (fun z => ?_) e
      have eb := List.mem_singleton.mp hb
      exact Nat.ne_of_lt ltP (z.symm.trans eb)
    · rw [List.mem_singleton.mp hb]
      exact itlt
    · exact Nat.ne_of_lt stat.1 (List.mem_singleton.mp z)
    · constructor
      · intro A' E' i v r m hA hv hn hm hk
        rw [List.forIn_nil]
        exact wpAny_pure ⟨rfl, keeps_refl _⟩
      · intro A' E' i v r m hA hv hp hn hm hk
        obtain ⟨cc, u, hcc, rfl⟩ := hv
        refine wpAny_mono (E1 _ A' E' cc u r m rfl rfl rfl hA hn hm fun b u hb e => ?_) (fun y r' q => ⟨⟨cc, hcc, q.1⟩, q.2⟩) fun _ _ e => e
        have lb : b < s1.heap.objs.size := Heap.lt_size e
        exact hk b (List.mem_range.mpr (Nat.lt_trans lb itlt)) (fun z => Nat.ne_of_lt lb (List.mem_singleton.mp z)) u (hold b u (kept b u hb e))
    · intro g h5 tk5 gs bare5 lt5 sz5 keep5 W5 at5
      simp only [List.length_range, GxR.passing_true] at W5
      refine hQ a pb H1 g _ rr ⟨_, _, _, _, _, W5.in4_1, at5, ans_truth rfl, fun s' mv => ?_⟩
      have outside : ∀ b u, s1.heap.get? b = some u → b ∉ h3.objs.size :: [s1.heap.objs.size] := fun b u e hb => by
        have lb : b < s1.heap.objs.size := Heap.lt_size e
        rw [List.mem_cons, List.mem_singleton] at hb
        rcases hb with z | z
        · rw [z] at lb
          exact Nat.lt_irrefl _ (Nat.lt_trans itlt lb)
        · rw [z] at lb
          exact Nat.lt_irrefl _ lb
      exact fin s' (fun b u hb e => mv.heap b u (outside b u e) (keep5 b u (kept b u hb e))) (mv.heap P _ (outside P _ oldP) (keep5 P _ at3)) (fun b u l1 l2 e => mv.heap b u (fun hb => by
        rw [List.mem_cons, List.mem_singleton] at hb
        rcases hb with z | z
        · rw [z] at l2
          exact Nat.lt_irrefl _ l2
        · rw [z] at l1
          exact Nat.lt_irrefl _ l1) (keep5 b u e)) (AllBare.movedS (I1.bare.push bare5) mv) mv.os
  -- the table as it was
  have asIs : ∀ s' : Shared, (∀ b u, b ≠ P → s1.heap.get? b = some u → s'.heap.get? b = some u) → s'.heap.get? P = some { cls := .none, data := .fields ps } → AllBare s'.gens → s'.os = s1.os → ∃ H2, Lb.Same H1 H2 ∧ Inv X pins σ H2 s' := fun s' k1 k2 k3 k4 => by
    have J := inv_tab (more := #[]) (h' := s'.heap) (g' := s'.gens) (d' := s'.drawn) (t' := s'.toks) I1 tabP k1 (by rw [Array.append_empty]; exact k2) k3
    rw [sh_eta s1 s' k4, Array.append_empty] at J
    have e : upd H1 P (.tbl ps) = H1 := by
      funext b
      by_cases z : b = P
      · rw [z, upd_same]
        exact tabP.symm
      · exact upd_ne z
    rw [e] at J
    exact ⟨H1, .refl H1, J⟩
  cases hit : codeAmong gpos ps.toList with
  | some cv => exact wpAny_genexprCode_hit hcode (codeH.code nowP tri) hit (owed cv _ s1.toks ps (Heap.ExtBut.refl _ _) (Nat.le_refl _) nowP fun s' k1 k2 _ k3 k4 => asIs s' k1 k2 k3 k4)
  | none =>
    refine wpAny_genexprCodeX hcode (codeH.code nowP tri) (codeH.tab nowP) hit fun c' h' tk hx hge hlt hco' hrec htab' _ => ?_
    obtain ⟨c2, oc, vs, t, e2, hoc, hdc, hvc⟩ := hrec
    cases e2
    refine owed _ h' tk _ hx (Nat.le_trans hge (Nat.le_of_lt hlt)) htab'.2 fun s' k1 k2 k5 k3 k4 => ?_
    have hge0 : (s1.heap.push io).objs.size ≤ c' := hge
    rw [szp] at hge0
    have hge1 : s1.heap.objs.size < c' := hge0
    have nC : H1 c' = none := I1.hok.fresh (Nat.le_of_lt hge1)
    have J0 := LamX.inv_table (q := X.env.qual ++ "<genexpr>") (h' := s'.heap) (t' := s'.toks) I1 tabP k1 k2 (Nat.le_of_lt hge1) ⟨oc, vs, t, k5 _ _ hge1 hlt hoc, hdc, hvc⟩
    have atP : upd (upd H1 P (.tbl (ps ++ #[rawInt gpos.line, rawInt gpos.col, .ref c']))) c' (LamX.CodeO c' (X.env.qual ++ "<genexpr>")) P = some (.tbl (ps ++ #[rawInt gpos.line, rawInt gpos.col, .ref c'])) := by
      rw [upd_ne (ne_of_none tabP nC), upd_same]
    have J := inv_tab (more := #[]) (h' := s'.heap) (g' := s'.gens) (d' := s'.drawn) (t' := s'.toks) J0 atP (fun b u _ e => e) (by rw [Array.append_empty]; exact k2) k3
    have es : ({ s1 with heap := s'.heap, gens := s'.gens, drawn := s'.drawn, toks := s'.toks } : Shared) = s' := sh_eta s1 s' k4
    have J : Inv X pins σ _ ({ s1 with heap := s'.heap, gens := s'.gens, drawn := s'.drawn, toks := s'.toks } : Shared) := J
    rw [es, Array.append_empty] at J
    have eP : ∀ (G : Hp) (o : HO), G P = some o → upd G P o = G := fun G o hG => by
      funext b
      by_cases z : b = P
      · rw [z, upd_same]
        exact hG.symm
      · exact upd_ne z
    rw [eP _ _ atP] at J
    refine ⟨_, Lb.same_code tabP tri bears nC hmem, J⟩
/-- behind it the def's table may have grown -/
def tAll (Cn : L2.St → Hp → (Nat → Bool) → Prop) (te : TE) : TE := fun σ H Q => te σ H fun v H1 => ∃ (a : Str) (pb : Nat → Bool), v = .str a ∧ Good H1 ∧ Cn σ H1 pb ∧ ∀ H2, Lb.Same H1 H2 → Q (.bl (a.cps.toList.all pb)) H2
theorem pe_all {c P : Addr} {elt iter : Expr} {x : Str} {px p pos gpos : Pos} {scope : Scope} {Cn : L2.St → Hp → (Nat → Bool) → Prop} {te : TE} {k : Nat}
    (hr : Room k X.A) (hg : Gl X "all") (hm : X.mg "all" = none) (TB : LamX.TabB X.base X.mg c P) (hmem : (P, X.env.qual ++ "<genexpr>") ∈ Tabl.T) (hcode : X.env.code = .ref c) (S : GenS X.env scope x) (hi : PE X iter te)
    (hel : ∀ (pins : List (Addr × Obj)) (σ : L2.St) (H1 : Hp) (s1 : Shared) (pb : Nat → Bool), Inv X pins σ H1 s1 → Good H1 → Cn σ H1 pb → Elt X P s1.heap scope x elt pb) (hs : ∀ v, genFold iter X.env v = pure v := by intro _; rfl)
    (hb : bootBuiltins "all" = some (.builtin "all") := by decide +kernel)
    (he : starEach [.GeneratorExp elt [⟨.Name x px, iter, [], 0⟩] scope gpos] X.env = (false, eval (.GeneratorExp elt [⟨.Name x px, iter, [], 0⟩] scope gpos) X.env) :: starEach [] X.env := by rfl) :
    PE X (.Call (.Name "all" p) [.GeneratorExp elt [⟨.Name x px, iter, [], 0⟩] scope gpos] [] pos) (tAll Cn te) := by
  refine ⟨fun pins s σ H Q I h => wpAny_Call_Name_kw (ld_blt I hg hm hb (PyProof.Rows.callWith_builtin1 ?_ he (by rfl)))⟩
  rw [he]
  refine Calls.spliced_cons (gen_txt (R := fun a pb H1 => ∀ H2, Lb.Same H1 H2 → Q (.bl (a.cps.toList.all pb)) H2) hr TB hmem hcode S hi (hel pins) hs I h fun a pb H1 g s5 hR ready => ?_)
  obtain ⟨fp, wr, G, F, St, W, st0, tr, fin⟩ := ready
  refine Calls.spliced_nil (call_all_walkS (W.self 0 _ _ _ st0 ⟨g, fp, wr, G, _, F, St, _, rfl, W, st0, tr, fun s' mv => ?_⟩))
  obtain ⟨H2, hT, J⟩ := fin s' mv
  refine ⟨.bl _, H2, J, rfl, ?_⟩
  rw [all_signs a pb]
  exact hR H2 hT
/-- x in y, y a text that a name of the def holds -/
def CnVar (i : Nat) : L2.St → Hp → (Nat → Bool) → Prop := fun σ _ pb => ∃ z : Str, σ[i]? = some (some (.str z)) ∧ pb = fun c => decide (c ∈ z.cps.toList)
/-- x in y, y a text of the module -/
def CnGl (z : Str) : L2.St → Hp → (Nat → Bool) → Prop := fun _ _ pb => pb = fun c => decide (c ∈ z.cps.toList)
theorem elt_var {P : Addr} {scope : Scope} {x y : Str} {i : Nat} {p1 p2 p3 : Pos} {pb : Nat → Bool} (S : GenS X.env scope x) (hy : scope.names.lookup y = some .free) (hm : (y, NameKind.free) ∈ scope.names) (hN : X.N[i]? = some y) (hv : X.env.scope.names.lookup y = some .cell)
    (I : Inv X pins σ H s) (tb : TabG H P) (cn : CnVar i σ H pb) (hd : (x == ("__debug__" : Str)) = false := by decide) (hd' : (y == ("__debug__" : Str)) = false := by decide) (hcd : (y == ("__classdict__" : Str)) = false := by decide) :
    Elt X P s.heap scope x (.Compare (.Name x p1) [.In] [.Name y p2] p3) pb := by
  obtain ⟨z, hz, rfl⟩ := cn
  obtain ⟨m0, hn0, look⟩ := I.loc
  obtain ⟨u, ru, lk⟩ := look i y _ hN hz (.inr (.inl hv))
  obtain ⟨tz, rfl⟩ := ru
  have cellAt : ∃ c0, X.env.cells.lookup y = some c0 ∧ s.heap.IsCell c0 (some (.str z tz)) := by
    rcases lk with ⟨hk, _⟩ | ⟨_, r⟩
    · have hk' : X.env.scope.names.lookup y = some .local := hk
      rw [hv] at hk'
      cases hk'
    · exact r
  obtain ⟨c0, hc0, o0, ho0, hd0⟩ := cellAt
  intro env A' E' c t r m hs hcl hg hA hn hx keep
  have kd : env.scope.kind = .function := by rw [hs]; exact S.kind
  have notP : c0 ≠ P := fun e => by
    obtain ⟨ps, hP, _⟩ := tb
    have hP' : s.heap.get? P = some { cls := .none, data := .fields ps } := I.hok P _ hP
    rw [e, hP'] at ho0
    cases ho0
    cases hd0
  have lx : env.kindOf x = some .local := by show env.scope.names.lookup x = _; rw [hs]; exact S.loc
  have ly : env.kindOf y = some .free := by show env.scope.names.lookup y = _; rw [hs]; exact hy
  have clo : env.cells.lookup y = some c0 := by rw [hcl]; exact NdefX.clo_has S.free hm hc0
  refine wpAny_Compare1 (wpAny_Name (wpAny_loadName_local kd lx hn hx ?_) hd)
  refine wpAny_Name (wpAny_loadName_free kd ly clo ⟨o0, keep c0 o0 notP ho0, hd0⟩ ?_ hcd) hd'
  exact PyProof.Rows.in_str ⟨congrArg Value.bool (PySem.StrLaws.found_one z c), keeps_refl r⟩
theorem elt_glob {P : Addr} {scope : Scope} {x y : Str} {z : Str} {tz : Tok} {p1 p2 p3 : Pos} {pb : Nat → Bool} (S : GenS X.env scope x) (hy : scope.names.lookup y = some .globalImplicit) (hm : X.mg y = some (.str z tz)) (gP : mainGlobals ≠ P)
    (I : Inv X pins σ H s) (cn : CnGl z σ H pb) (hd : (x == ("__debug__" : Str)) = false := by decide) (hd' : (y == ("__debug__" : Str)) = false := by decide) :
    Elt X P s.heap scope x (.Compare (.Name x p1) [.In] [.Name y p2] p3) pb := by
  cases cn
  intro env A' E' c t r m hs hcl hg hA hn hx keep
  have kd : env.scope.kind = .function := by rw [hs]; exact S.kind
  have lx : env.kindOf x = some .local := by show env.scope.names.lookup x = _; rw [hs]; exact S.loc
  have ly : env.kindOf y = some .globalImplicit := by show env.scope.names.lookup y = _; rw [hs]; exact hy
  have gl : r.heap.Ns env.globals X.mg := by
    rw [hg, I.ok.glob]
    exact (I.mod.glob.keeps I.bk).at fun o e => keep _ o gP e
  refine wpAny_Compare1 (wpAny_Name (wpAny_loadName_local kd lx hn hx ?_) hd)
  refine Calls.Name_function_global kd ly (Calls.loadGlobal_global gl hm ?_) hd'
  exact PyProof.Rows.in_str ⟨congrArg Value.bool (PySem.StrLaws.found_one z c), keeps_refl r⟩
/-! ### the generator's names, told by the scopes alone -/
structure GenB (sc scope : Scope) (x : Str) : Prop where
  kind : scope.kind = .function
  co : scope.isCoroutine = false
  cell : ∀ y ∈ scope.names, y.2 ≠ .cell
  dot : scope.names.lookup (".0" : Str) = some NameKind.local
  loc : scope.names.lookup x = some .local
  free : ∀ y ∈ scope.names, y.2 = .free → sc.names.lookup y.1 = some .cell ∨ sc.names.lookup y.1 = some .free
def genBB (sc scope : Scope) (x : Str) : Bool :=
  decide (scope.kind = .function) && !scope.isCoroutine && decide (scope.names.lookup (".0" : Str) = some NameKind.local) && decide (scope.names.lookup x = some .local) && scope.names.all fun y => !decide (y.2 = .cell) && (!decide (y.2 = .free) || decide (sc.names.lookup y.1 = some .cell) || decide (sc.names.lookup y.1 = some .free))
theorem genB_by {sc scope : Scope} {x : Str} (h : genBB sc scope x = true) : GenB sc scope x := by
  unfold genBB at h
  simp only [Bool.and_eq_true, Bool.or_eq_true, Bool.not_eq_true', decide_eq_true_eq, decide_eq_false_iff_not, List.all_eq_true] at h
  obtain ⟨⟨⟨⟨a1, a2⟩, a3⟩, a4⟩, a5⟩ := h
  refine ⟨a1, a2, fun y m => (a5 y m).1, a3, a4, fun y m e => ?_⟩
  rcases (a5 y m).2 with (z | z) | z
  · exact absurd e z
  · exact .inl z
  · exact .inr z
theorem GenB.S {scope : Scope} {x : Str} (B : GenB X.env.scope scope x) (ok : X.Ok) : GenS X.env scope x := ⟨B.kind, B.co, B.cell, B.dot, B.loc, fun y m e => ok.has _ (B.free y m e)⟩
theorem pe_weak {e : Expr} {te : TE} (h : PE X e te) : PE X e (fun σ H Q => ∃ R : VK, te σ H R ∧ ∀ v H1, R v H1 → Q v H1) :=
  ⟨fun pins s σ H Q I ⟨R, a, b⟩ => wpAny_mono (h.run pins s σ H R I a) (fun u s1 ⟨v, H1, I1, r, q⟩ => ⟨v, H1, I1, r, b v H1 q⟩) fun _ _ z => z⟩
/-- all(x in y for x in e), y a text of the module -/
def tAllG (z : Str) (te : TE) : TE := fun σ H Q => te σ H fun v H1 => ∃ a : Str, v = .str a ∧ Good H1 ∧ ∀ H2, Lb.Same H1 H2 → Q (.bl (a.cps.toList.all fun c => decide (c ∈ z.cps.toList))) H2
/-- all(x in y for x in e), y a text in the i-th slot -/
def tAllV (i : Nat) (te : TE) : TE := fun σ H Q => te σ H fun v H1 => ∃ a z : Str, v = .str a ∧ σ[i]? = some (some (.str z)) ∧ Good H1 ∧ ∀ H2, Lb.Same H1 H2 → Q (.bl (a.cps.toList.all fun c => decide (c ∈ z.cps.toList))) H2
theorem pe_allG {c P : Addr} {iter : Expr} {x y : Str} {px p pos gpos p1 p2 p3 : Pos} {scope : Scope} {te : TE} {k : Nat} {z : Str} {tz : Tok}
    (hr : Room k X.A) (hm : X.mg "all" = none) (hmy : X.mg y = some (.str z tz)) (TB : LamX.TabB X.base X.mg c P) (hmem : (P, X.env.qual ++ "<genexpr>") ∈ Tabl.T) (hcode : X.env.code = .ref c) (B : GenB X.env.scope scope x) (hi : PE X iter te)
    (hg : Gl X "all" := by rfl) (hy : scope.names.lookup y = some .globalImplicit := by rfl) (hs : ∀ v, genFold iter X.env v = pure v := by intro _; rfl) (hd : (x == ("__debug__" : Str)) = false := by decide) (hd' : (y == ("__debug__" : Str)) = false := by decide)
    (he : starEach [.GeneratorExp (.Compare (.Name x p1) [.In] [.Name y p2] p3) [⟨.Name x px, iter, [], 0⟩] scope gpos] X.env = (false, eval (.GeneratorExp (.Compare (.Name x p1) [.In] [.Name y p2] p3) [⟨.Name x px, iter, [], 0⟩] scope gpos) X.env) :: starEach [] X.env := by rfl) :
    PE X (.Call (.Name "all" p) [.GeneratorExp (.Compare (.Name x p1) [.In] [.Name y p2] p3) [⟨.Name x px, iter, [], 0⟩] scope gpos] [] pos) (tAllG z te) := by
  refine ⟨fun pins s σ H Q I h => ?_⟩
  have S := B.S I.ok
  refine (pe_all (Cn := CnGl z) hr hg hm TB hmem hcode S (pe_weak hi) (fun pins σ H1 s1 pb I1 _ cn => elt_glob S hy hmy TB.gP I1 cn hd hd') hs (he := he)).run pins s σ H Q I ⟨_, h, fun v H1 q => ?_⟩
  obtain ⟨a, e1, e2, e3⟩ := q
  exact ⟨a, _, e1, e2, rfl, e3⟩
theorem pe_allV {c P : Addr} {iter : Expr} {x y : Str} {i : Nat} {px p pos gpos p1 p2 p3 : Pos} {scope : Scope} {te : TE} {k : Nat}
    (hr : Room k X.A) (hm : X.mg "all" = none) (hN : X.N[i]? = some y) (TB : LamX.TabB X.base X.mg c P) (hmem : (P, X.env.qual ++ "<genexpr>") ∈ Tabl.T) (hcode : X.env.code = .ref c) (B : GenB X.env.scope scope x) (hi : PE X iter te)
    (hv : X.env.scope.names.lookup y = some .cell := by rfl) (hg : Gl X "all" := by rfl) (hy : scope.names.lookup y = some .free := by rfl) (hmm : (y, NameKind.free) ∈ scope.names := by exact PySem.mem_of_lookup rfl) (hs : ∀ v, genFold iter X.env v = pure v := by intro _; rfl) (hd : (x == ("__debug__" : Str)) = false := by decide) (hd' : (y == ("__debug__" : Str)) = false := by decide) (hcd : (y == ("__classdict__" : Str)) = false := by decide)
    (he : starEach [.GeneratorExp (.Compare (.Name x p1) [.In] [.Name y p2] p3) [⟨.Name x px, iter, [], 0⟩] scope gpos] X.env = (false, eval (.GeneratorExp (.Compare (.Name x p1) [.In] [.Name y p2] p3) [⟨.Name x px, iter, [], 0⟩] scope gpos) X.env) :: starEach [] X.env := by rfl) :
    PE X (.Call (.Name "all" p) [.GeneratorExp (.Compare (.Name x p1) [.In] [.Name y p2] p3) [⟨.Name x px, iter, [], 0⟩] scope gpos] [] pos) (tAllV i te) := by
  refine ⟨fun pins s σ H Q I h => ?_⟩
  have S := B.S I.ok
  refine (pe_all (Cn := CnVar i) hr hg hm TB hmem hcode S (pe_weak hi) (fun pins σ H1 s1 pb I1 g cn => elt_var S hy hmm hN hv I1 (let ⟨ps, h1, h2, _⟩ := g _ hmem; ⟨ps, h1, h2⟩) cn hd hd' hcd) hs (he := he)).run pins s σ H Q I ⟨_, h, fun v H1 q => ?_⟩
  obtain ⟨a, z, e1, e0, e2, e3⟩ := q
  exact ⟨a, _, e1, e2, ⟨z, e0, rfl⟩, e3⟩
end
end GQ

namespace Lb
open PySem PySem.Spec PyProof.Rows L2
/-! ### the text's own errors -/
/-- a class of errors -/
structure ErrT (K : PySem.W.Frag) (mg : Str → Option Value) (x : Str) (C : Addr) : Prop where
  g : mg x = some (.ref C)
  o : OexC K C
  f : XfC K C
  i : ExcC K C
/-! what class is one of what class: from the classes' own rows -/
theorem cls_bit {K : PySem.W.Frag} {C : Addr} (h1 : PySem.W.isClsIn K C = true) (h2 : PySem.W.typeIn K (.ref C) = some (.type "type")) : ((PySem.W.clsIn K C).isSome && PySem.W.typeIn K (.ref C) == some (.type "type")) = true := by
  have h1' : (PySem.W.clsIn K C).isSome = true := h1
  rw [h1', h2] <;> rfl
theorem kitC {K : PySem.W.Frag} {t : Value} {C : Addr} {b : Bool} (h1 : PySem.W.isClsIn K C = true) (h2 : PySem.W.typeIn K (.ref C) = some (.type "type")) (h3 : PySem.W.subIn K t (.ref C) = some b) : PySem.W.kitCls K t (.ref C) = some b := by
  show (if ((PySem.W.clsIn K C).isSome && PySem.W.typeIn K (.ref C) == some (.type "type")) = true then PySem.W.subIn K t (.ref C) else none) = some b
  rw [if_pos (cls_bit h1 h2)]
  exact h3
theorem kitY {K : PySem.W.Frag} {t : Value} {C : Addr} (h1 : PySem.W.isClsIn K C = true) (h2 : PySem.W.typeIn K (.ref C) = some (.type "type")) (h3 : PySem.W.subIn K t (.ref C) = some true) : PySem.W.kitOne K t (.ref C) = some true := by
  unfold PySem.W.kitOne
  split
  · rfl
  · exact kitC h1 h2 h3
theorem kitN {K : PySem.W.Frag} {D C : Addr} (h1 : PySem.W.isClsIn K C = true) (h2 : PySem.W.typeIn K (.ref C) = some (.type "type")) (h3 : PySem.W.subIn K (.ref D) (.ref C) = some false) (h4 : PySem.W.subIn K (.ref C) (.ref C) = some true) :
    PySem.W.kitOne K (.ref D) (.ref C) = some false := by
  unfold PySem.W.kitOne
  split
  · rename_i e
    have e' := beq_iff_eq.mp e
    rw [e', h4] at h3
    cases h3
  · exact kitC h1 h2 h3
theorem kitB {K : PySem.W.Frag} {D : Addr} {T : String} {b : Bool} (hm : PySem.W.kitMeta T = true) (h : PySem.W.subIn K (.ref D) (.type T) = some b) : PySem.W.kitOne K (.ref D) (.type T) = some b := by
  unfold PySem.W.kitOne
  split
  · rename_i e
    cases beq_iff_eq.mp e
  · show (if PySem.W.kitMeta T = true then PySem.W.subIn K (.ref D) (.type T) else none) = some b
    rw [if_pos hm]
    exact h
theorem exmR {K : PySem.W.Frag} {D C : Addr} {b : Bool} (h0 : PySem.W.subIn K (.ref C) (.type "BaseException") = some true) (h1 : PySem.W.isClsIn K C = true) (h2 : PySem.W.typeIn K (.ref C) = some (.type "type")) (h3 : PySem.W.subIn K (.ref D) (.ref C) = some b) :
    PySem.W.exmOne K (.ref D) (.ref C) = some b := by
  have e1 : (PySem.W.subIn K (.ref C) (.type "BaseException") == some true) = true := by rw [h0] <;> rfl
  show (if (PySem.W.subIn K (.ref C) (.type "BaseException") == some true) = true then PySem.W.kitCls K (.ref D) (.ref C) else none) = some b
  rw [if_pos e1]
  exact kitC h1 h2 h3
/-- the j-th row of a class -/
def inCls (s : Stmt) (j : Nat) : Stmt := match s with
  | .ClassDef _ _ _ b _ _ _ _ _ _ _ => b.getD j (.Pass ⟨0, 0, 0, 0⟩)
  | _ => .Pass ⟨0, 0, 0, 0⟩
/-- isinstance(e, c), e the error that the suite holds, whatever its class -/
def rIsD (K : PySem.W.Frag) (a : Addr) (cls : Value) (d : Option Addr) : List V → Hp → VK → Prop := fun xs H Q =>
  ∃ (D : Addr) (c : V) (cv : Value) (b : Bool), cls = .ref D ∧ ExcC K D ∧ xs = [.ref a, c] ∧ (∀ u, RelV c u → u = cv) ∧ (∀ dd, d = some dd → ∃ fs, H dd = some (.xd fs)) ∧ PySem.W.kitOne K (.ref D) cv = some b ∧ Q (.bl b) H
theorem call_isD {X : Cx} {a : Addr} {cls : Value} {d : Option Addr} {oe : Obj} {pn : List (Addr × Obj)} (hz : Zc cls d oe) (hf : ∃ vs, oe.data = .fields vs) : CallR (X.suite a ((a, oe) :: pn)) (.builtin "isinstance") (rIsD X.K a cls d) := by
  intro pins s σ H xs us Q I r h
  obtain ⟨D, c, cv, b, rfl, C, rfl, same, dict, e, q⟩ := h
  obtain ⟨u1, u2, rfl, r1, r2⟩ := vals2 r
  cases r1
  cases same _ r2
  obtain ⟨at_, _⟩ := I.pin (a, oe) (List.mem_append_left _ List.mem_cons_self)
  obtain ⟨vs, data⟩ := hf
  obtain ⟨od, J⟩ : ∃ od, PySem.W.InstAt s.heap a oe D od := by
    have no : PySem.W.notCls oe = true := by
      unfold PySem.W.notCls
      rw [data] <;> rfl
    cases d with
    | none => exact ⟨none, at_, hz.1, no, by rw [hz.2]; trivial⟩
    | some dd =>
      obtain ⟨fs, hd⟩ := dict dd rfl
      obtain ⟨mA, ns, _⟩ := (show ObjOk X.prog X.w H s.heap dd (.xd fs) from I.hok dd _ hd)
      obtain ⟨od, ho, _⟩ := lookIn_ns ns
      exact ⟨some od, at_, hz.1, no, by rw [hz.2]; exact ho⟩
  have some_ : (PySem.W.clsIn X.K D).isSome = true := by
    obtain ⟨cd, hc, _⟩ := PySem.W.any_some C.hd
    rw [hc]
    rfl
  exact PySem.W.kia_one (PySem.W.kitx_exc some_ C.hg C.hk C.hs C.ha C.hn C.ht C.hm) I.kIn J e (fun z => nomatch z) fun tk => ⟨.bl b, H, I.kept (t' := tk) fun _ _ z => z, rfl, q⟩
/-! ### a class with an own __init__(self, f): self.f = f -/
def sp_init1 (K : PySem.W.Frag) (f : Str) : Sp := fun vs H Q _ => ∃ (a C : Addr) (v : V), vs = [.ref a, v] ∧ OexC K C ∧ PySem.W.findIn K (.ref C) f = some none ∧ H a = some (exo a C none) ∧
  ∀ dx, H dx = none → dx ≠ a → Q .non (upd (upd H dx (exd dx [(f, v)])) a (exo a C (some dx)))
theorem pa_weak {X : Cx} {es : List Expr} {t : TA} (h : PA X es t) : PA X es (fun σ H Q => ∃ R : List V → Hp → Prop, t σ H R ∧ ∀ vs H1, R vs H1 → Q vs H1) :=
  ⟨fun pos pins s σ H Q I ⟨R, a, b⟩ => wpAny_mono (h.run pos pins s σ H R I a) (fun u s1 ⟨v, H1, I1, r, q⟩ => ⟨v, H1, I1, r, b v H1 q⟩) fun _ _ z => z⟩
/-- C(e): a new error, its field f -/
def tErr1 (C : Addr) (f : Str) (ta : TA) : L2.St → Hp → XK → Prop := fun σ H Q => ta σ H fun vs H1 => ∃ v, vs = [v] ∧ ∀ d, H1 d = none → Q (.ref C) (some d) (upd H1 d (.xd [(f, v)]))
theorem pmk_err1 {X : Cx} {CX : CXT} {e : Expr} {ta : TA} {x f : Str} {C fI : Addr} {k : Nat} {fd : FuncData} {ps : List Str} {p pos : Pos} (E : ErrT X.K X.mg x C) (iC : PySem.W.findIn X.K (.ref C) "__init__" = some (some (.ref fI))) (tI : PySem.W.typeIn X.K (.ref fI) = some (.type "function"))
    (hno : PySem.W.findIn X.K (.ref C) f = some none) (F1 : FnOk X.prog X.w X.K X.mg X.base CX k fI fd ps (sp_init1 X.K f)) (hr : Room (k + 1) X.A) (hb : Binds X.K fd ps []) (hx : Passes CX X (fun _ _ _ => False)) (ha : PA X [e] ta) (hg : Gl X x := by rfl)
    (hdb : (x == ("__debug__" : Str)) = false := by decide) (he : starEach [e] X.env = (false, eval e X.env) :: starEach [] X.env := by rfl) (hpl : (backTo pos (starEach [] X.env)).any (·.1) = false := by rfl) :
    PMk X (.Call (.Name x p) [e] [] pos) (tErr1 C f ta) := by
  intro pins s σ H Q I h
  refine pmk_oex (dvs := []) E.o iC tI F1 hr hb .nil hx hg E.g (pa_weak ha) hdb he hpl pins s σ H Q I ⟨_, h, fun vs H1 z => ?_⟩
  obtain ⟨v, rfl, q⟩ := z
  refine ⟨by show 1 ≤ 1000; decide, fun a na => ⟨a, C, v, rfl, E.o, hno, upd_same, fun dx nd ne => ?_⟩⟩
  have nd1 : H1 dx = none := by
    rw [upd_ne ne] at nd
    exact nd
  refine ⟨rfl, dx, [(f, v)], upd_same, by rw [upd_ne ne, upd_same], nd1, ?_⟩
  have e : upd (del (upd (upd (upd H1 a (exo a C none)) dx (exd dx [(f, v)])) a (exo a C (some dx))) a) dx (.xd [(f, v)]) = upd H1 dx (.xd [(f, v)]) := by
    funext b
    by_cases b1 : b = dx
    · rw [b1, upd_same, upd_same]
    · rw [upd_ne b1, upd_ne b1]
      by_cases b2 : b = a
      · rw [b2, del_same, na]
      · rw [del_ne b2, upd_ne b2, upd_ne b1, upd_ne b2]
  rw [e]
  exact q dx nd1
/-- __init__(self, f): self.f = f -/
theorem ok_init1 {P : Program} {w : World} {K : PySem.W.Frag} {mg : Str → Option Value} {base : Heap} {x qual f : Str} {st : Stmt} {fI : Addr} {fd : FuncData} {p0 p1 p2 p3 p4 : Pos} {k : Nat} (F : Fun K x qual st fI fd) (S : FnScope ["self", f] ["self", f] (defScope st)) (hf : f ≠ "self")
    (body : defBody st = [.Assign [.Attribute (.Name "self" p0) f p1] (.Name f p2) p3]) (v0 : Vis (defScope st) "self" := by exact Or.inl rfl) (v1 : Vis (defScope st) f := by exact Or.inl rfl) (d1 : (f == ("__debug__" : Str)) = false := by decide) (d2 : (f == ("__classdict__" : Str)) = false := by decide) :
    FnOk P w K mg base CX0 (k + 1) fI fd ["self", f] (sp_init1 K f) := by
  refine F.ok S (fun vs H Q E h => ?_) (fun cdv A outer s H vs Q E hr h => ?_)
  · obtain ⟨a, C, v, rfl, _⟩ := h
    rfl
  · obtain ⟨a, C, v, rfl, T, no, e, q⟩ := h
    rw [body]
    exact ⟨_, pss_one (ps_ost (pv 0 rfl v0) (pv 1 rfl v1 d1 d2)), v, rfl, .ref a, rfl, a, C, rfl, T, no, .inl ⟨e, fun dx n ne => q dx n ne⟩⟩
end Lb

namespace Lb
open PySem PySem.Spec PyProof.Rows L2
/-! ### a lambda made and handed to a def of the text -/
section
variable [Tabl] {X : Cx} {pins : List (Addr × Obj)} {σ : L2.St} {H : Hp} {s : Shared}
abbrev qLam (X : Cx) : Str := X.env.qual ++ "<lambda>"
abbrev lamO (X : Cx) (params : Arguments) (body : Expr) (scope : Scope) (pm : Value) (c : Addr) (ct : Value) : Obj := PySem.W.kla_obj "<lambda>" (qLam X) params body scope (cloFrom X.env.cells scope.names []) pm c ct
end
end Lb

namespace Lb
open PySem PySem.Spec PyProof.Rows L2
/-! ### a lambda called in a suite: what it lets out is told of the slots there -/
section
variable {X : Cx} {pins : List (Addr × Obj)} {σ : L2.St} {H : Hp} {s : Shared}
/-- the def that calls what it got: TT, what it makes of the lambda's reading -/
def ActGives (X : Cx) (Ng : List Str) (x : Str) (sg : Scope) (g : Addr) (cdg : Value) (bg : List Stmt) (a : Str) (q : Str) (TT : (XK → Hp → VK → Prop) → Hp → VK → Prop) : Prop :=
  ∀ (f c : Addr) (s : Shared) (H : Hp) (Q : VK) (tl : XK → Hp → VK → Prop), (∀ (W : WX) (pn : List (Addr × Obj)) (xe : Value → Shared → Prop) (p1 p2 : Pos), Takes ((cxOf C8.CX0 X.prog X.w X.K X.mg X.base Ng x sg g cdg X.A X.stack s H C8.E0).tr pn xe) W →
      PE ((cxOf C8.CX0 X.prog X.w X.K X.mg X.base Ng x sg g cdg X.A X.stack s H C8.E0).tr pn xe) (.Call (.Name a p1) [] [] p2) (fun σZ HZ Q => ∃ E0 : XK, (∀ cls d H', E0 cls d H' → W cls d σZ H') ∧ σZ[0]? = some (some (.ref f)) ∧ HZ c = some (LamX.CodeO c q) ∧ tl E0 HZ Q)) → H c = some (LamX.CodeO c q) → TT tl H Q →
    ∃ t, PSs (cxOf C8.CX0 X.prog X.w X.K X.mg X.base Ng x sg g cdg X.A X.stack s H C8.E0).nox bg t ∧ t { nx := fun _ H' => Q .non H', rt := Q } (L2.start Ng [.ref f]) H
end
/-- action() in a suite -/
def tbAct (f c : Addr) (q : Str) (tl : XK → Hp → VK → Prop) (W : WX) : TS := fun D σ H => ∃ E0 : XK, (∀ cls d H', E0 cls d H' → W cls d σ H') ∧ σ[0]? = some (some (.ref f)) ∧ H c = some (LamX.CodeO c q) ∧ tl E0 H (fun _ H1 => D.nx σ H1)
/-- a suite, its reading found when its error is known -/
def tSuite (X : Cx) (suite : List Stmt) (a : Addr) (cls : Value) (d : Option Addr) : TS := fun D σ H => ∀ (oe : Obj) (pn : List (Addr × Obj)), Zc cls d oe → (∃ vs, oe.data = .fields vs) → ∃ t : TS, PSs (X.suite a ((a, oe) :: pn)) suite t ∧ t D σ H
theorem suite_any {X : Cx} {suite : List Stmt} {a : Addr} {cls : Value} {d : Option Addr} {oe : Obj} {pn : List (Addr × Obj)} (hz : Zc cls d oe) (hf : ∃ vs, oe.data = .fields vs) : PSs (X.suite a ((a, oe) :: pn)) suite (tSuite X suite a cls d) :=
  ⟨fun pins s σ H D I h => let ⟨_, p, k⟩ := h oe pn hz hf; p.run pins s σ H D I k⟩
section
variable [Tabl] {X : Cx}
/-- TT: what the def makes of the lambda's reading; the reading itself at the heap behind the making -/
def tLamS (TT : (XK → Hp → VK → Prop) → Hp → VK → Prop) (t : XK → TE) : TE := fun σ H Q => Good H ∧ ∀ H1, Same H H1 → TT (fun E H' Q' => t E σ H' Q') H1 Q
end
end Lb

namespace SetQ
open PySem PySem.Spec PyProof.Rows L2 PySem.Froz
open Sem (wp)
/-! ### sorted(set(a)) of an ascending text a -/
theorem tail_ris (ep : Nat) (es1 : Array (Int × Value)) (t2 : SetTable) (wd : Bool) (r : Ris t2.place.toList) : Ris (tailTx ep es1 t2 wd).2.2.place.toList ∧ (tailTx ep es1 t2 wd).2.2.led = t2.led := by
  unfold tailTx
  split
  · exact ⟨relayAll_ris _ _ _, relayAll_led _ _ _⟩
  · exact ⟨r, rfl⟩
theorem addTx_ris (h : Int) (v : Value) (D : SD) (r : Ris D.2.2.place.toList) : Ris (addTx h v D).2.2.place.toList ∧ (addTx h v D).2.2.led = D.2.2.led := by
  have r1 := layNew_ris D.2.2 D.1 h v r
  have l1 := layNew_led D.2.2 D.1 h v
  have mid : ∀ t : SetTable, t = (if (layNew D.2.2 D.1 h v).2.1.plain = true then { (layNew D.2.2 D.1 h v).2.1 with plain := false } else (layNew D.2.2 D.1 h v).2.1) → Ris t.place.toList ∧ t.led = D.2.2.led := by
    intro t e
    rw [e]
    split
    · exact ⟨r1, l1⟩
    · exact ⟨r1, l1⟩
  have m := mid _ rfl
  have q := tail_ris D.2.1 (layNew D.2.2 D.1 h v).1 _ (layNew D.2.2 D.1 h v).2.2.1 m.1
  exact ⟨q.1, q.2.trans m.2⟩
section
variable {P : Program} {w : World} {A : Around} {E : Value → Shared → Prop} {s : Shared}
def freshT (w : World) : SetTable := .fresh 0 0 (!w.params.followText "set-order")
def setObj0 (w : World) : Obj := { cls := .type "set", dict := none, data := .set #[] 0 (freshT w) }
theorem new_set1 (a : Value) {Q₁ : Value → Shared → Prop} (h : Q₁ (.ref s.heap.objs.size) { s with heap := s.heap.push (setObj0 w) }) :
    codeAny (model P w) A (.call (.builtin "set.__new__") ⟨[.type "set", a], []⟩) (wants Q₁ E) s := by
  refine codeAny_of_tree ?_
  show wpAny _ A.in1 (do checkBuiltinCall "set.__new__" ⟨[.type "set", a], []⟩; again (.builtin "set.__new__" ⟨[.type "set", a], []⟩)) _ _ s
  refine wpAny_bind (wpAny_of_eq (F.newCall_set_1 a) (wpAny_pure ⟨plainId_quiet F.plain_set_new _, codeAny_builtin F.entry_set_new ?_⟩))
  rw [Around.under_plainId F.plain_set_new _]
  unfold Builtin.«set.__new__» Builtin.Frozenset.newClass
  have isS := sub_set_self
  obtain ⟨hp, g, d, tk, os⟩ := s
  dsimp only
  wp_walk
  refine wpAny_askSetting (wpAny_pure ?_)
  dsimp only
  simp only [newObj]
  exact wpAny_bind (wpAny_alloc (wpAny_pure (wpAny_pure h)))
end
end SetQ

namespace SetQ
open PySem PySem.Spec PyProof.Rows L2 PySem.Froz
open Sem (wp)
section
variable {P : Program} {w : World} {A : Around} {E : Value → Shared → Prop} {s : Shared}
theorem nodup_perm {α : Type} [DecidableEq α] : ∀ {l ws : List α}, l.Nodup → (∀ k ∈ l, k ∈ ws) → ws.length = l.length → ws.Perm l
  | [], ws, _, _, hl => by
    have : ws = [] := List.length_eq_zero_iff.mp hl
    rw [this]
  | k :: l, ws, nd, sub, hl => by
    obtain ⟨n1, n2⟩ := List.nodup_cons.mp nd
    have hk := sub k List.mem_cons_self
    have ih := nodup_perm (l := l) (ws := ws.erase k) n2 (fun x hx => ?_) (by rw [List.length_erase_of_mem hk, hl]; rfl)
    · exact (List.perm_cons_erase hk).trans (ih.cons k)
    · have hne : x ≠ k := fun e => n1 (e ▸ hx)
      exact (List.mem_erase_of_ne hne).mpr (sub x (List.mem_cons_of_mem _ hx))
/-- the keys of such a payload, as texts -/
theorem payload_strs {D : SD} {l : List Str} (F : TxOk P w D l) (nd : l.Nodup) : ∃ ws : List Str, StrsAre (D.1.toList.map (·.2)) ws ∧ ws.Perm l := by
  have key : ∀ es : List (Int × Value), ElemsOf (strKind P w) es → ∃ ws : List Str, StrsAre (es.map (·.2)) ws ∧ ws.length = es.length ∧ ∀ k : Str, (∃ e ∈ es, (strKind P w).is k e.2 = true) → k ∈ ws := by
    intro es
    induction es with
    | nil => exact fun _ => ⟨[], .nil, rfl, fun k ⟨e, he, _⟩ => absurd he List.not_mem_nil⟩
    | cons e es ih =>
      intro g
      obtain ⟨ws, h1, h2, h3⟩ := ih g.tail
      obtain ⟨⟨k, hk, _⟩, _⟩ := g.head
      obtain ⟨t, et⟩ := Value.isStrOf_shape (show Value.isStrOf k e.2 = true from hk)
      refine ⟨k :: ws, ?_, by rw [List.length_cons, List.length_cons, h2], fun k' ⟨e', he', hk'⟩ => ?_⟩
      · rw [List.map_cons, et]
        exact .cons k t h1
      · rcases List.mem_cons.mp he' with rfl | he'
        · obtain ⟨t', et'⟩ := Value.isStrOf_shape (show Value.isStrOf k' e'.2 = true from hk')
          rw [et] at et'
          injection et' with e1
          rw [e1]
          exact List.mem_cons_self
        · exact List.mem_cons_of_mem _ (h3 k' ⟨e', he', hk'⟩)
  obtain ⟨ws, h1, h2, h3⟩ := key D.1.toList F.el
  refine ⟨ws, h1, nodup_perm nd (fun k hk => h3 k ((F.mem k).mp hk)) ?_⟩
  rw [h2, Array.length_toList]
  exact F.sz
theorem strs_each : ∀ {us : List Value} {xs : List Str}, StrsAre us xs → PySem.W.EachIs (fun v (b : Str) => ∃ t, v = Value.str b t) us xs
  | _, _, .nil => .nil
  | _, _, .cons x t h => .cons ⟨t, rfl⟩ (strs_each h)
theorem each_strs : ∀ {us : List Value} {xs : List Str}, PySem.W.EachIs (fun v (b : Str) => ∃ t, v = Value.str b t) us xs → StrsAre us xs
  | _, _, .nil => .nil
  | _, _, .cons ⟨t, e⟩ h => by
    subst e
    exact .cons _ t (each_strs h)
theorem strs_reads {h : Heap} {a : Addr} : ∀ {us : List Value} {xs : List Str}, StrsAre us xs → PySem.W.EachIs (fun v (b : Str) => ∃ as, Reads h v (PyData.str b) as ∧ a ∉ as) us xs
  | _, _, .nil => .nil
  | _, _, .cons x t h => .cons ⟨[], Reads.str x t, List.not_mem_nil⟩ (strs_reads h)
theorem strs_alike {xs : List Str} : PySem.W.AllAlike (xs.map PyData.str) := fun d hd d' hd' => by
  obtain ⟨x, _, rfl⟩ := List.mem_map.mp hd
  obtain ⟨y, _, rfl⟩ := List.mem_map.mp hd'
  rfl
theorem strs_sortable {xs : List Str} : PySem.W.Sortable (xs.map PyData.str) := .inr fun d hd => by
  obtain ⟨x, _, rfl⟩ := List.mem_map.mp hd
  exact ⟨fun e => (by cases e), fun _ e => (by cases e)⟩
theorem sortedS_of : ∀ {ws : List Str}, ws.Pairwise (fun x y => ¬ y.cps.toList < x.cps.toList) → sortedS ws = true
  | [], _ => rfl
  | [_], _ => rfl
  | x :: y :: r, h => by
    obtain ⟨h1, h2⟩ := List.pairwise_cons.mp h
    have ih := sortedS_of h2
    show (!ltCps y.cps.toList x.cps.toList && risingS y r) = true
    rw [ltCps_eq, decide_eq_false (h1 y List.mem_cons_self)]
    exact ih
theorem strs_sorted (xs : List Str) : sortedS (xs.mergeSort (PySem.W.dataLe false PyData.str)) = true := by
  refine sortedS_of ((PySem.W.sort_pairwise (le := PySem.W.dataLe false PyData.str) (show PySem.W.TotalLe (PySem.W.dataLe false PyData.str) from PySem.W.sortLe_total _ false _) xs).imp fun {x y} h => ?_)
  have e := congrFun (congrFun (PySem.W.dataLe_str (fun b : Str => b)) x) y
  rw [e] at h
  have := of_decide_eq_true h
  exact List.not_lt.mpr this
theorem sorted_setT {D : SD} {a : Addr} {l : List Str} {Q : Value → Shared → Prop} (ha : s.heap.get? a = some (sObj "set" D)) (F : TxOk P w D l) (nd : l.Nodup) (r : Ris D.2.2.place.toList) (hl : D.2.2.led = (!w.params.followText "set-order")) (hh : A.handled = none) (hb : l.length < scanBound) (hu : A.units + 64 < cLine)
    (hQ : ∀ s' p (out : Array Value) (c : Nat) (ws : List Str), (∀ b o, s.heap.get? b = some o → s'.heap.get? b = some o) → s'.gens = s.gens → s'.os = s.os → s.heap.objs.size ≤ p →
      s'.heap.get? p = some (seqObj "list" out c) → StrsAre out.toList ws → sortedS ws = true → ws.Perm l → Q (.ref p) s') :
    wpAny (model P w) A (call (.builtin "sorted") [.ref a]) Q E s := by
  obtain ⟨es, ep, t⟩ := D
  obtain ⟨ws, hS, pw⟩ := payload_strs F nd
  have hsz : es.size = l.length := F.sz
  have led : w.params.followText "set-order" = true ∨ t.led = true := by
    have hl' : t.led = (!w.params.followText "set-order") := hl
    cases e : w.params.followText "set-order" with
    | true => exact .inl rfl
    | false =>
      rw [e] at hl'
      exact .inr hl'
  refine Calls.call_function_entry kind_sorted plain_sorted entry_sorted (args_sorted1 _) ?_
  unfold Builtin.«sorted»
  refine wpAny_bind (m := checkCount "sorted" 1 1 _) (wpAny_pure ?_)
  refine wpAny_bind (collect_set (A := A.in1) (a := a) (es := es) (ep := ep) (t := t) hh ⟨_, ha, rfl, rfl⟩ F.fit (by rw [hsz]; exact hb) r led fun s1 vs k1 hz g1 o1 pm => ?_)
  have vl : vs.length = l.length := by rw [pm.length_eq, List.length_map, Array.length_toList]; exact hsz
  -- what was collected, as texts
  have toS : ∀ {us vs : List Value}, us.Perm vs → ∀ {ws : List Str}, StrsAre vs ws → ∃ ws', StrsAre us ws' ∧ ws'.Perm ws := by
    intro us vs p
    induction p with
    | nil => exact fun {ws} h => ⟨ws, h, .refl _⟩
    | cons x _ ih =>
      intro ws h
      cases h with
      | cons y t h =>
        obtain ⟨ws', q1, q2⟩ := ih h
        exact ⟨y :: ws', .cons y t q1, q2.cons y⟩
    | swap x y l =>
      intro ws h
      cases h with
      | cons y1 t1 h =>
        cases h with
        | cons y2 t2 h => exact ⟨y2 :: y1 :: _, .cons y2 t2 (.cons y1 t1 h), .swap ..⟩
    | trans _ _ ih1 ih2 =>
      intro ws h
      obtain ⟨w1, q1, q2⟩ := ih2 h
      obtain ⟨w2, q3, q4⟩ := ih1 q1
      exact ⟨w2, q3, q4.trans q2⟩
  obtain ⟨us, hU, pU⟩ := toS pm hS
  have vz : vs.length ≤ sizeLine := by rw [vl]; exact Nat.le_of_lt (Nat.lt_of_lt_of_le hb (by unfold scanBound; decide))
  refine wpAny_bind (wpAny_newList ?_ vz)
  have at1 : (s1.heap.push (seqObj "list" vs.toArray 0)).get? s1.heap.objs.size = some (seqObj "list" vs.toArray 0) := Heap.get?_push_size _ rfl
  have lus : us.length ≤ sizeLine := by
    have := hU.length
    omega
  refine wpAny_bind (wpAny_holding (PySem.W.list_sort_data (R := fun v (b : Str) => ∃ t, v = Value.str b t) (enc := PyData.str) at1 (strs_each hU) (strs_reads hU) strs_alike strs_sortable lus (fun b _ => ?_) fun out ol eo => ?_))
  · show A.units + 1 + 1 + PyData.depth (.str b) < cLine
    simp only [PyData.depth]
    omega
  obtain ⟨c, hc⟩ := sortedHeap_at (vs := vs) (out := out.toArray) at1
  have q1 := each_strs eo
  have q2 : (us.mergeSort (PySem.W.dataLe false PyData.str)).Perm us := List.mergeSort_perm us _
  have q3 := strs_sorted us
  refine wpAny_pure ⟨_, rfl, hQ _ s1.heap.objs.size _ c _ (fun b u e => ?_) g1 o1 hz hc (by rw [List.toList_toArray]; exact q1) q3 ((q2.trans pU).trans pw)⟩
  have q := k1 b u e
  have hlt := Heap.lt_size q
  refine (sortedHeap_old (Nat.ne_of_lt hlt) (by rw [size_push']; exact Nat.lt_succ_of_lt hlt)).trans ?_
  exact Heap.get?_push_of_some _ q
end
/-- the set of the texts l at a, as its text was walked -/
def SetTx (P : Program) (w : World) (a : Addr) (l : List Str) : HO := .ext fun h => ∃ D, h.get? a = some (sObj "set" D) ∧ TxOk P w D l ∧ Ris D.2.2.place.toList ∧ D.2.2.led = (!w.params.followText "set-order")
section
variable {X : Cx}
/-- set(x) -/
def rSetT (P : Program) (w : World) : List V → Hp → VK → Prop := fun vs H Q => ∃ x : Str, vs = [.str x] ∧ x.cps.all (· < 128) = true ∧ x.cps.toList.Nodup ∧ x.cps.toList.length < 64 ∧ ∀ p, H p = none → Q (.ref p) (upd H p (SetTx P w p (x.cps.toList.reverse.map sing)))
/-- sorted(found) -/
def rSortedTx (P : Program) (w : World) : List V → Hp → VK → Prop := fun vs H Q => ∃ (a : Addr) (l : List Str), vs = [.ref a] ∧ H a = some (SetTx P w a l) ∧ l.Nodup ∧ l.length < 4096 ∧ ∀ (ws : List Str) (p : Addr), sortedS ws = true → ws.Perm l → H p = none → Q (.ref p) (upd H p (.lst (ws.map V.str)))
theorem vals_of_strs : ∀ {us : List Value} {xs : List Str}, StrsAre us xs → Vals (xs.map V.str) us
  | _, _, .nil => .nil
  | _, _, .cons x t h => .cons ⟨t, rfl⟩ (vals_of_strs h)
theorem cr_sortedTx (hc : X.calm = true) (hu : X.A.units + 64 < cLine) : CallR X (.builtin "sorted") (rSortedTx X.prog X.w) := by
  intro pins s σ H vs us Q I r h
  obtain ⟨a, l, rfl, ha, nd, len, q⟩ := h
  obtain ⟨D, e1, e2, e3, e4⟩ := (I.hok a _ ha).1
  rw [Vals.ref1 r]
  refine sorted_setT e1 e2 nd e3 e4 (I.ok.hd hc) len hu fun s' p out c ws k g o hp at_ its srt perm => ?_
  have hn : H p = none := I.hok.fresh hp
  have size : (ws.map V.str).length ≤ sizeLine := by
    rw [List.length_map, perm.length_eq, sizeLine_eq]
    omega
  have J : Inv X pins σ (upd H p (.lst (ws.map V.str))) { s with heap := s'.heap, gens := s'.gens, drawn := s'.drawn, toks := s'.toks } := by
    refine I.call (ch := []) (Un.laid k hp hn) (I.hok.laid k hp ?_) ?_ ?_
    · exact ⟨size, out.toList, c, vals_of_strs its, at_⟩
    · rw [g]
      exact I.bare
    · exact fun _ z => absurd z List.not_mem_nil
  rw [GxR.sh_eta s s' o] at J
  exact ⟨.ref p, _, J, rfl, q ws p srt perm hn⟩
end
/-! ### one-sign texts, sorted -/
theorem le_unique : ∀ {a b : List Nat}, a.Perm b → a.Pairwise (· ≤ ·) → b.Pairwise (· ≤ ·) → a = b
  | [], b, p, _, _ => p.nil_eq
  | x :: a, [], p, _, _ => absurd p.symm.nil_eq (by simp)
  | x :: a, y :: b, p, ha, hb => by
    obtain ⟨a1, a2⟩ := List.pairwise_cons.mp ha
    obtain ⟨b1, b2⟩ := List.pairwise_cons.mp hb
    have xy : x = y := by
      have h1 : x ∈ y :: b := p.mem_iff.mp List.mem_cons_self
      have h2 : y ∈ x :: a := p.mem_iff.mpr List.mem_cons_self
      rcases List.mem_cons.mp h1 with e | e
      · exact e
      · rcases List.mem_cons.mp h2 with k | k
        · exact k.symm
        · exact Nat.le_antisymm (a1 y k) (b1 x e)
    subst xy
    rw [le_unique p.cons_inv a2 b2]
theorem rising_sing : ∀ (r : List Nat) (p : Nat), risingS (sing p) (r.map sing) = true → (∀ d ∈ r, p ≤ d) ∧ r.Pairwise (· ≤ ·)
  | [], p, _ => ⟨fun d h => absurd h List.not_mem_nil, .nil⟩
  | x :: r, p, h => by
    have h' : (!ltCps [x] [p] && risingS (sing x) (r.map sing)) = true := h
    rw [Bool.and_eq_true] at h'
    have px : p ≤ x := by
      have e := h'.1
      unfold ltCps at e
      by_cases g : p ≤ x
      · exact g
      · have lt : x < p := by omega
        simp [lt] at e
    obtain ⟨h1, h2⟩ := rising_sing r x h'.2
    refine ⟨fun d hd => ?_, List.pairwise_cons.mpr ⟨h1, h2⟩⟩
    rcases List.mem_cons.mp hd with e | e
    · rw [e]
      exact px
    · exact Nat.le_trans px (h1 d e)
theorem sorted_sing {l : List Nat} {ws : List Str} (s : sortedS ws = true) (p : ws.Perm (l.map sing)) : ∃ ds : List Nat, ws = ds.map sing ∧ ds.Perm l ∧ ds.Pairwise (· ≤ ·) := by
  have e : ws = (ws.map fun y : Str => y.cps.toList.headD 0).map sing := by
    rw [List.map_map]
    refine (List.map_id ws).symm.trans (List.map_congr_left fun y hy => ?_)
    obtain ⟨c, _, ec⟩ := List.mem_map.mp (p.mem_iff.mp hy)
    rw [← ec]
    rfl
  have q : (ws.map fun y : Str => y.cps.toList.headD 0).Perm l := by
    have := p.map fun y : Str => y.cps.toList.headD 0
    rw [List.map_map] at this
    have id' : (l.map ((fun y : Str => y.cps.toList.headD 0) ∘ sing)) = l := by
      refine (List.map_congr_left fun c _ => ?_).trans (List.map_id l)
      rfl
    rw [id'] at this
    exact this
  refine ⟨_, e, q, ?_⟩
  generalize (ws.map fun y : Str => y.cps.toList.headD 0) = ds at e
  rw [e] at s
  cases ds with
  | nil => exact .nil
  | cons x r =>
    obtain ⟨h1, h2⟩ := rising_sing r x s
    exact List.pairwise_cons.mpr ⟨h1, h2⟩
end SetQ

namespace SetQ
open PySem PySem.Spec PyProof.Rows L2 PySem.Froz
open Sem (wp)
/-! ### set(a) of any ascii text a, its signs now and then again -/
section
variable {P : Program} {w : World} {A : Around} {E : Value → Shared → Prop} {s : Shared}
/-- what is in the set is not put in again -/
theorem add_old {a : Addr} {T : String} {D : SD} {l : List Str} {k : Str} {u : Tok} {Q : Bool → Shared → Prop} (ho : s.heap.get? a = some (sObj T D)) (F : TxOk P w D l) (hk : k ∈ l) (hb : l.length < scanBound)
    (h : Q false s) : wpAny (model P w) A (setAddHashed a (.str k u) (hashStr w k)) Q E s := by
  obtain ⟨es, ep, t⟩ := D
  have hd : (sObj T (es, ep, t)).data = .set es ep t := rfl
  have hf : t.fits es.size = true := F.fit
  have hel : ElemsOf (strKind P w) es.toList := F.el
  have hsz : es.size = l.length := F.sz
  have hb0 : es.size < scanBound := by omega
  have hkey : (strKind P w).is k (.str k u) = true := is_str k u
  obtain ⟨j, hj⟩ : ∃ j, List.findIdx? (fun e => (strKind P w).is k e.2) es.toList = some j := by
    cases hr : List.findIdx? (fun e => (strKind P w).is k e.2) es.toList with
    | some j => exact ⟨j, rfl⟩
    | none =>
      obtain ⟨e, he, hp⟩ := (F.mem k).mp hk
      have := List.findIdx?_eq_none_iff.mp hr e he
      rw [this] at hp
      cases hp
  unfold setAddHashed setAddHashedIn
  refine wpAny_holding (wpAny_bind (wpAny_setState_of ho hd hf ?_))
  dsimp only
  rw [byScan_of rfl hb0 hel]
  simp only [↓reduceIte]
  unfold setAddByScan
  refine wpAny_bind ?_
  refine wpAny_bind (wpAny_rule ?_)
  refine wpAny_bind (wpAny_setScan_of (knd := strKind P w) (k := k) hkey ho hd hf hel ?_)
  rw [hj]
  dsimp only
  exact wpAny_pure (wpAny_pure h)
end
section
variable {P : Program} {w : World} {A : Around} {R : Result → Shared → Prop}
/-- the rest of a text's signs into the set, new ones and old ones -/
theorem code_update2 {a it : Addr} (hne : a ≠ it) {T : String} {x : Str} {u : Tok} (hh : A.handled = none) : ∀ (cs : List Nat) (i : Nat) (D : SD) (l : List Str) (s : Shared), x.cps.toList.drop i = cs →
    s.heap.get? a = some (sObj T D) → s.heap.get? it = some (itObj x u i) → TxOk P w D l → l.Nodup → Ris D.2.2.place.toList → l.length + cs.length < scanBound →
    (∀ (h' : Heap) (tk : Nat) (D' : SD) (l' : List Str), (∀ b o, b ≠ a → b ≠ it → s.heap.get? b = some o → h'.get? b = some o) → h'.get? a = some (sObj T D') → TxOk P w D' l' → l'.Nodup → Ris D'.2.2.place.toList → D'.2.2.led = D.2.2.led →
      (∀ k, k ∈ l' ↔ k ∈ l ∨ ∃ c ∈ cs, k = sing c) → l'.length ≤ l.length + cs.length → R (.ok (.ret .none)) { s with heap := h', toks := tk }) →
    codeAny (model P w) A (.builtin "set.update.loop" ⟨[.ref a, .ref it], []⟩) R s
  | [], i, D, l, s, hd, ha, hit, F, nd, ris, _, h => by
    refine codeAny_builtin PyProof.Rows.F.entry_set_update_loop ?_
    rw [Around.under_plainId PyProof.Rows.F.plain_set_update_loop _]
    show wpAny _ A.in1 (pyNext (.ref it) >>= _) _ _ s
    refine wpAny_bind (end_x (u := u) (by exact hh) hit (at_end hd) ?_)
    show wpAny _ A.in1 (ret Value.none) _ _ _
    refine wpAny_pure ?_
    refine h (endHeap s.heap it i) s.toks D l (fun b o ha' hi' e => ?_) ?_ F nd ris rfl (fun k => ⟨.inl, fun q => ?_⟩) (by simp)
    · unfold endHeap
      exact Heap.get?_push_of_some _ (Heap.get?_push_of_some _ (PySem.Heap.get?_update_of_ne _ (Ne.symm hi') e))
    · unfold endHeap
      exact Heap.get?_push_of_some _ (Heap.get?_push_of_some _ (PySem.Heap.get?_update_of_ne _ (Ne.symm hne) ha))
    · rcases q with q | ⟨c, hc, _⟩
      · exact q
      · cases hc
  | c :: r, i, D, l, s, hd, ha, hit, F, nd, ris, hb, h => by
    obtain ⟨hx, hd2⟩ := at_of hd
    have hb2 : l.length + (r.length + 1) < scanBound := hb
    refine codeAny_builtin PyProof.Rows.F.entry_set_update_loop ?_
    rw [Around.under_plainId PyProof.Rows.F.plain_set_update_loop _]
    show wpAny _ A.in1 (pyNext (.ref it) >>= _) _ _ s
    refine wpAny_bind (next_x (u := u) hit hx ?_)
    show wpAny _ A.in1 (holding [Value.str (sing c) s.toks] (setAdd a (.str (sing c) s.toks)) >>= _) _ _ _
    refine wpAny_bind (wpAny_holding ?_)
    unfold setAdd
    refine wpAny_holding ?_
    refine wpAny_bind ((strKind P w).pyHash (k := sing c) (is_str _ _) ?_)
    have ha1 : (s.heap.update it (fun _ => itObj x u (i + 1))).get? a = some (sObj T D) := PySem.Heap.get?_update_of_ne _ (Ne.symm hne) ha
    have hit1 : (s.heap.update it (fun _ => itObj x u (i + 1))).get? it = some (itObj x u (i + 1)) := get_upd _ hit rfl
    by_cases hcl : sing c ∈ l
    · refine add_old (l := l) (D := D) (s := { s with heap := s.heap.update it (fun _ => itObj x u (i + 1)), toks := s.toks + 1 + 1 }) ha1 F hcl (by omega) ?_
      refine wpAny_pure ⟨plainId_quiet PyProof.Rows.F.plain_set_update_loop _, code_update2 hne hh r (i + 1) _ l _ hd2 ha1 hit1 F nd ris (by omega) fun h' tk D' l' k1 k2 k3 k4 k5 k6 k7 k8 => ?_⟩
      refine h h' tk D' l' (fun b o n1 n2 e => k1 b o n1 n2 (PySem.Heap.get?_update_of_ne _ (Ne.symm n2) e)) k2 k3 k4 k5 k6 (fun k => ?_) (by simp only [List.length_cons]; omega)
      rw [k7]
      constructor
      · rintro (q | ⟨d, hd, e⟩)
        · exact .inl q
        · exact .inr ⟨d, List.mem_cons_of_mem _ hd, e⟩
      · rintro (q | ⟨d, hd, e⟩)
        · exact .inl q
        · rcases List.mem_cons.mp hd with q | q
          · subst q
            subst e
            exact .inl hcl
          · exact .inr ⟨d, q, e⟩
    · refine add_x (l := l) (D := D) (s := { s with heap := s.heap.update it (fun _ => itObj x u (i + 1)), toks := s.toks + 1 + 1 }) ha1 F hcl (by omega) ?_
      have ha2 : ((s.heap.update it (fun _ => itObj x u (i + 1))).update a (fun _ => sObj T (addTx (hashStr w (sing c)) (.str (sing c) s.toks) D))).get? a = some (sObj T (addTx (hashStr w (sing c)) (.str (sing c) s.toks) D)) := get_upd _ ha1 rfl
      have hit2 : ((s.heap.update it (fun _ => itObj x u (i + 1))).update a (fun _ => sObj T (addTx (hashStr w (sing c)) (.str (sing c) s.toks) D))).get? it = some (itObj x u (i + 1)) := PySem.Heap.get?_update_of_ne _ hne hit1
      have rr := addTx_ris (hashStr w (sing c)) (.str (sing c) s.toks) D ris
      refine wpAny_pure ⟨plainId_quiet PyProof.Rows.F.plain_set_update_loop _, code_update2 hne hh r (i + 1) _ (sing c :: l) _ hd2 ha2 hit2 (add_ok s.toks F) (List.nodup_cons.mpr ⟨hcl, nd⟩) rr.1 (by show l.length + 1 + r.length < scanBound; omega)
        fun h' tk D' l' k1 k2 k3 k4 k5 k6 k7 k8 => ?_⟩
      refine h h' tk D' l' (fun b o n1 n2 e => k1 b o n1 n2 (PySem.Heap.get?_update_of_ne _ (Ne.symm n1) (PySem.Heap.get?_update_of_ne _ (Ne.symm n2) e))) k2 k3 k4 k5 (k6.trans rr.2) (fun k => ?_) (by simp only [List.length_cons] at *; omega)
      rw [k7]
      constructor
      · rintro (q | ⟨d, hd, e⟩)
        · rcases List.mem_cons.mp q with q | q
          · exact .inr ⟨c, List.mem_cons_self .., q⟩
          · exact .inl q
        · exact .inr ⟨d, List.mem_cons_of_mem _ hd, e⟩
      · rintro (q | ⟨d, hd, e⟩)
        · exact .inl (List.mem_cons_of_mem _ q)
        · rcases List.mem_cons.mp hd with q | q
          · subst q
            subst e
            exact .inl (List.mem_cons_self ..)
          · exact .inr ⟨d, q, e⟩
end
section
variable {P : Program} {w : World} {A : Around} {E : Value → Shared → Prop} {s : Shared}
set_option maxHeartbeats 3200000 in
/-- set(x), x a text of ascii signs: its payload; what stood stands -/
theorem call_setT2 {x : Str} {u : Tok} {Q : Value → Shared → Prop} (hh : A.handled = none) (asc : x.cps.all (· < 128) = true) (hb : x.cps.toList.length < scanBound)
    (h : ∀ (h' : Heap) (tk : Nat) (D : SD) (l : List Str), h'.get? s.heap.objs.size = some (sObj "set" D) → TxOk P w D l → Ris D.2.2.place.toList → D.2.2.led = (!w.params.followText "set-order") → l.Nodup → (∀ k, k ∈ l ↔ ∃ c ∈ x.cps.toList, k = sing c) → l.length ≤ x.cps.toList.length →
      (∀ b o, s.heap.get? b = some o → h'.get? b = some o) → Q (.ref s.heap.objs.size) { s with heap := h', toks := tk }) :
    wpAny (model P w) A (call (.type "set") [.str x u]) Q E s := by
  obtain ⟨c, tl, hmro⟩ := F.called_set.mro
  have hmade := F.called_set.made
  have hsub := F.called_set.sub
  refine wpAny_call (codeAny_of_tree ?_)
  show wpAny _ _ (callAny (.type "set") _) _ _ _
  refine wpAny_pure ⟨Code.quiet_builtin _ (by decide +kernel), codeAny_builtin F.entry_type_call ?_⟩
  rw [Around.under_plain (weight_type_call_type "set" [.str x u] []) rfl]
  have n1 := F.called_set.notType
  have n2 := F.called_set.canCreate
  have n3 := F.typeCall_set_1 (.str x u)
  repeat (any_goals (first | assumption | wp_step))
  refine codeAny_mono (new_set1 (.str x u) (E := E) (Q₁ := fun obj s₁ => obj = .ref s.heap.objs.size ∧ s₁ = { s with heap := s.heap.push (setObj0 w) }) ⟨rfl, rfl⟩) fun r s₁ hr => ?_
  cases r with
  | error e => exact hr
  | ok fl =>
    cases fl with
    | ret obj =>
      obtain ⟨rfl, rfl⟩ := hr
      have at0 : (s.heap.push (setObj0 w)).get? s.heap.objs.size = some (setObj0 w) := Heap.get?_push_size _ rfl
      have ty0 : Shared.TypeIs { s with heap := s.heap.push (setObj0 w) } (.ref s.heap.objs.size) "set" := ⟨_, at0, rfl⟩
      have hli := F.called_set.init.lookup
      have hbi := F.called_set.init.bind (.ref s.heap.objs.size)
      repeat (any_goals (first | assumption | wp_step))
      refine codeAny_mono (codeAny_call_builtin (R := wants (fun r s₂ => r = .none ∧ ∃ h' tk D l, s₂ = { s with heap := h', toks := tk } ∧ h'.get? s.heap.objs.size = some (sObj "set" D) ∧ TxOk P w D l ∧ l.Nodup ∧ (∀ k, k ∈ l ↔ ∃ c ∈ x.cps.toList, k = sing c) ∧ l.length ≤ x.cps.toList.length ∧ Ris D.2.2.place.toList ∧
          D.2.2.led = (!w.params.followText "set-order") ∧ ∀ b o, s.heap.get? b = some o → h'.get? b = some o) E) F.called_set.init.plain F.entry_set_init (check_set_init_1 ty0 ?_)) fun r₂ s₂ hr₂ => ?_
      · have z1 := F.sub_str_set
        have z2 := F.sub_str_frozenset
        have z3 : (Value.type "str" == Value.type "dict") = false := by decide
        unfold Builtin.«set.__init__» noKeywords Builtin.Frozenset.updateFrom
        generalize hPI : pyIter = PI
        wp_walk
        subst hPI
        refine wpAny_pyIter_ascii asc ?_
        refine wpAny_bind (wpAny_runValue ?_)
        have lt0 : s.heap.objs.size < (s.heap.push (setObj0 w)).objs.size := by
          rw [Heap.size_push]
          exact Nat.lt_succ_self _
        have ne0 : s.heap.objs.size ≠ (s.heap.push (setObj0 w)).objs.size := Nat.ne_of_lt lt0
        have hA : A.in1.in1.handled = none := hh
        refine code_update2 (P := P) (a := s.heap.objs.size) (it := (s.heap.push (setObj0 w)).objs.size) ne0 (T := "set") (x := x) (u := u) hA x.cps.toList 0 (#[], 0, freshT w) [] _ rfl ?_ ?_ (TxOk.nil (by rfl)) List.nodup_nil List.Pairwise.nil ?_ ?_
        · exact Heap.get?_push_of_some _ at0
        · exact Heap.get?_push_size _ rfl
        · show 0 + x.cps.toList.length < scanBound
          omega
        · intro h' tk D' l' k1 k2 k3 k4 k5 k6 k7 k8
          show wpAny _ _ _ _ _ _
          refine wpAny_pure ?_
          show wpAny _ _ (ret Value.none) _ _ _
          refine wpAny_pure ⟨rfl, h', tk, D', l', rfl, k2, k3, k4, fun k => ?_, ?_, k5, k6, fun b o e => ?_⟩
          · rw [k7]
            exact ⟨fun q => q.elim (fun z => absurd z List.not_mem_nil) id, .inr⟩
          · have : ([] : List Str).length = 0 := rfl
            omega
          · have lb : b < s.heap.objs.size := Heap.lt_size e
            exact k1 b o (Nat.ne_of_lt lb) (Nat.ne_of_lt (Nat.lt_trans lb lt0)) (Heap.get?_push_of_some _ (Heap.get?_push_of_some _ e))
      · cases r₂ with
        | error e => exact hr₂
        | ok fl₂ =>
          cases fl₂ with
          | ret r =>
            obtain ⟨rfl, h', tk, D, l, rfl, g1, g2, g6, g7, g8, g3, g4, g5⟩ := hr₂
            repeat (any_goals (first | assumption | wp_step))
            exact h _ _ D l g1 g2 g3 g4 g6 g7 g8 g5
          | _ => exact hr₂.elim
    | _ => exact hr.elim
end
section
variable {X : Cx}
/-- set(x), x any ascii text -/
def rSetT2 (P : Program) (w : World) : List V → Hp → VK → Prop := fun vs H Q => ∃ x : Str, vs = [.str x] ∧ x.cps.all (· < 128) = true ∧ x.cps.toList.length < 64 ∧
  ∀ (p : Addr) (l : List Str), H p = none → l.Nodup → (∀ k, k ∈ l ↔ ∃ c ∈ x.cps.toList, k = sing c) → l.length ≤ x.cps.toList.length → Q (.ref p) (upd H p (SetTx P w p l))
theorem cr_setT2 (hc : X.calm = true) : CallR X (.type "set") (rSetT2 X.prog X.w) := by
  intro pins s σ H vs us Q I r h
  obtain ⟨x, rfl, asc, len, q⟩ := h
  obtain ⟨u, rfl, r0⟩ : ∃ u, us = [u] ∧ RelV (.str x) u := by
    cases r with
    | cons a b => cases b; exact ⟨_, rfl, a⟩
  obtain ⟨t, rfl⟩ := r0
  refine call_setT2 (I.ok.hd hc) asc (Nat.lt_of_lt_of_le len (by unfold scanBound; decide)) fun h' tk D l g1 g2 g3 g4 nd mem le k => ?_
  have w1 : ∃ D, h'.get? s.heap.objs.size = some (sObj "set" D) ∧ TxOk X.prog X.w D l ∧ Ris D.2.2.place.toList ∧ D.2.2.led = (!X.w.params.followText "set-order") := ⟨D, g1, g2, g3, g4⟩
  have hn : H s.heap.objs.size = none := I.hok.fresh (Nat.le_refl _)
  exact ⟨.ref _, upd H s.heap.objs.size (SetTx X.prog X.w s.heap.objs.size l), I.laid k (Nat.le_refl _) ⟨w1, ⟨_, g1⟩, fun _ _ ⟨D, e, r⟩ st => ⟨D, st _ e, r⟩⟩, rfl, q _ l hn nd mem le⟩
end
end SetQ

namespace Lb
open PySem PySem.Spec PyProof.Rows L2
/-! ### alphabets: list(x), set(x), sorted -/
def signV (c : Nat) : V := .str ⟨#[c]⟩
theorem vals_at : ∀ (xs : List V) (us : List Value), us.length = xs.length → (∀ (j : Nat) (u : Value), us[j]? = some u → ∃ x, xs[j]? = some x ∧ RelV x u) → Vals xs us
  | [], [], _, _ => .nil
  | x :: xs, u :: us, h, k => by
    obtain ⟨y, e, r⟩ := k 0 u rfl
    cases e
    exact .cons r (vals_at xs us (by simpa using h) fun j v hj => k (j + 1) v hj)
def rListT : List V → Hp → VK → Prop := fun vs H Q => ∃ x : Str, vs = [.str x] ∧ x.length ≤ sizeLine ∧ ∀ p, H p = none → Q (.ref p) (upd H p (.lst ((cs x).map signV)))
theorem cr_listT {X : Cx} (hc : X.calm = true) : CallR X (.type "list") rListT := by
  intro pins s σ H vs us Q I r h
  obtain ⟨x, rfl, len, q⟩ := h
  obtain ⟨u, rfl, t, rfl⟩ : ∃ u, us = [u] ∧ ∃ t, u = .str x t := by
    cases r with
    | cons a b =>
      cases b
      exact ⟨_, rfl, a⟩
  refine PySem.call_list_str (I.ok.hd hc) x t (fun h' tk acc c k e its => ?_)
  refine ⟨.ref s.heap.objs.size, upd H s.heap.objs.size (.lst ((cs x).map signV)), I.laid k (Nat.le_refl _) ⟨?_, acc.toList, c, ?_, e⟩, rfl, q _ (I.hok.fresh (Nat.le_refl _))⟩
  · rw [List.length_map, cs_len]
    exact len
  · refine vals_at _ _ ?_ fun j u hj => ?_
    · rw [List.length_map, cs_len, Array.length_toList]
      exact its.1
    · obtain ⟨cc, tt, hcc, rfl⟩ := its.2 j u (by rw [← Array.getElem?_toList]; exact hj)
      refine ⟨signV cc, ?_, tt, rfl⟩
      rw [List.getElem?_map, show (cs x)[j]? = some cc from (Array.getElem?_toList ..).trans hcc]
      rfl
end Lb
namespace Lb
open PySem PySem.Spec PyProof.Rows L2
/-! ### lists of signs, compared -/
def signD (c : Nat) : PyData := .str ⟨#[c]⟩
theorem dp_signs {K : PySem.W.Frag} {H : Hp} {a : Addr} {l : List Nat} (h : SqL K H a (l.map signV)) : Dp K H (.ref a) (.list (l.map signD)) := by
  refine .lst h ?_
  clear h
  induction l with
  | nil => exact .nil
  | cons c l ih => exact .cons (.str _) ih
theorem eqv_signs : ∀ l m : List Nat, PyData.eqvAll (l.map signD) (m.map signD) = decide (l = m)
  | [], [] => by simp [PyData.eqvAll]
  | [], _ :: _ => by simp [PyData.eqvAll]
  | _ :: _, [] => by simp [PyData.eqvAll]
  | c :: l, d :: m => by
    rw [List.map_cons, List.map_cons, PyData.eqvAll, eqv_signs l m]
    have e : PyData.eqv (signD c) (signD d) = decide (c = d) := by
      show ((⟨#[c]⟩ : Str) == ⟨#[d]⟩) = _
      by_cases h : c = d
      · subst h
        simp
      · rw [decide_eq_false h]
        refine beq_eq_false_iff_ne.mpr fun z => h ?_
        have := congrArg (fun y : Str => y.cps.toList) z
        simpa using this
    rw [e, ← Bool.decide_and]
    simp
theorem shaped_signs {l : List Nat} (h : ∀ c ∈ l, c < 128) : SeqAt.shaped (.list (l.map signD)) = true := by
  have lay : PyData.canLayAll0 (l.map signD) = true := by
    induction l with
    | nil => rfl
    | cons c l ih =>
      have hc := h c List.mem_cons_self
      have one : PyData.canLay0 (signD c) = true := by
        show (#[c] : Array Nat).all (· < 0x110000) = true
        simp
        omega
      rw [List.map_cons, PyData.canLayAll0, one, ih fun d m => h d (List.mem_cons_of_mem _ m)]
      rfl
  have dp : PyData.depthAll (l.map signD) = 0 := by
    clear lay h
    induction l with
    | nil => rfl
    | cons c l ih =>
      rw [List.map_cons, PyData.depthAll, ih]
      rfl
  show (PyData.canLayAll0 (l.map signD) && decide (PyData.depthAll (l.map signD) + 1 ≤ 64)) = true
  rw [lay, dp]
  rfl
end Lb

namespace Own
open PySem PySem.Spec PyProof.Rows L2 ItX
section
variable {X : Cx} {pins : List (Addr × Obj)} {σ : L2.St} {H : Hp} {s : Shared} {C f a : Addr} {fd : FuncData} {ps : List Str} {sp : Sp} {n : Nat} {E : XK}
/-- the promise of a def that may speak of the size of the heap at its call -/
def FnY (P : Program) (w : World) (K : PySem.W.Frag) (mg : Str → Option Value) (base : Heap) (k : Nat) (f : Addr) (fd : FuncData) (ps : List Str) (sp : Nat → Sp) : Prop :=
  (∀ z vs H Q E, sp z vs H Q E → vs.length = ps.length) ∧ ∀ (A : Around) (outer : List Env) (s : Shared) (H : Hp) (args : Args) (us : List Value) (vs : List V) (Q : VK) (E : XK), Room k A → Env0 P w K mg base A outer s H →
    BindsTo s fd args (ps.zip us) → Vals vs us → sp s.heap.objs.size vs H Q E → codeAny (model P w) A (.call (.ref f) args) (CR CX0 outer P w H s Q E) s
theorem FnOk.young {P : Program} {w : World} {K : PySem.W.Frag} {mg : Str → Option Value} {base : Heap} {k : Nat} (F : FnOk P w K mg base CX0 k f fd ps sp) : FnY P w K mg base k f fd ps fun _ => sp :=
  ⟨fun _ => F.len, fun A outer s H args us vs Q E => F.run A outer s H args us vs Q E⟩
theorem fn_young {P : Program} {w : World} {K : PySem.W.Frag} {mg : Str → Option Value} {base : Heap} {x qual : Str} {st : Stmt} {N : List Str} {k : Nat} {spN : Nat → Sp} (F : Fun K x qual st f fd) (S : FnScope N ps (defScope st))
    (len : ∀ z vs H Q E, spN z vs H Q E → vs.length = ps.length)
    (go : ∀ (cdv : Value) (A : Around) (outer : List Env) (s : Shared) (H : Hp) (vs : List V) (Q : VK) (E : XK), Room k (A.deeper (envOfC qual (defScope st) s.heap.objs.size f cdv)) → spN s.heap.objs.size vs H Q E →
      ∃ t, PSs (cxOf CX0 P w K mg base N qual (defScope st) f cdv A outer s H E).nox (defBody st) t ∧ t { nx := fun _ H' => Q .non H', rt := Q } (start N vs) H) : FnY P w K mg base (k + 1) f fd ps spN := by
  refine ⟨len, ?_⟩
  intro A outer s H args us vs Q E room env bnd rel hsp
  -- a promise that holds at this heap alone
  obtain ⟨oc, od, kV, doc, pm, an, cdv, ct, osl, hfd, look, code⟩ := F.ex
  subst hfd
  have inK : K.In s.heap := env.mod.kin.keeps fun b o e => (env.bs b o e).1
  have known : ∀ y ∈ ps.zip us, (defScope st).names.lookup y.1 = some .local ∨ ((defScope st).names.lookup y.1 = some .cell ∧ ((cellsFrom (s.heap.objs.size + 1) (defScope st).names []).lookup y.1).isSome = true) := by
    rintro ⟨m, v⟩ my
    exact (S.par m (List.of_mem_zip my).1).imp id fun q => ⟨q, PySem.W.cellsFrom_some _ _ _ (.inl q)⟩
  refine codeAny_call_function room.depth (inK _ _ look) rfl S.co S.gen rfl (PySem.W.codeRec_of inK code) (bnd _ _ _ _ ?_)
  refine wpAny_newFunctionEnv_cells S.kind known fun env1 ee s1 nw => ?_
  subst ee
  refine ⟨(env.mod.nolimit.keeps fun b o e => (env.bs b o e).1).keeps nw.toInCall.keep, codeAny_func ?_⟩
  obtain ⟨t, body, met⟩ := go cdv A outer s H vs Q E (room.deeper _) hsp
  have I0 : L2.Inv (cxOf CX0 P w K mg base N qual (defScope st) f cdv A outer s H E) [] (start N vs) H s1 := inv_start S room.hd env (len _ _ _ _ _ hsp) rel nw
  refine wpAny_mono (body.nox.run [] s1 (start N vs) H _ I0 met) (fun fl s' ends => ?_) fun e s' hs => hs
  cases fl with
  | ret u =>
    obtain ⟨v, σ', H', J, rv, q⟩ := ends
    exact ⟨v, H', J.os, J.bare, J.base, J.hok, rv, q⟩
  | next =>
    obtain ⟨σ', H', J, q⟩ := ends
    exact ⟨V.non, H', J.os, J.bare, J.base, J.hok, rfl, q⟩
  | brk => exact ends.elim fun _ z => z.elim fun _ z => z.2.elim
  | cont => exact ends.elim fun _ z => z.elim fun _ z => z.2.elim
/-- a def of the text, called as a special method of an own instance -/
theorem run_own {spN : Nat → Sp} {A1 : Around} {Q : VK} {vs : List V} {us : List Value} {R : Value → Shared → Prop} {E' : Value → Shared → Prop} (sb : Sub X n A1) (F : FnY X.prog X.w X.K X.mg X.base n f fd ps spN) (b : Binds X.K fd ps [])
    (I : Inv X pins σ H s) (r : Vals vs us) (hsp : spN s.heap.objs.size vs H Q E) (hR : ∀ u v H' s', Inv X pins σ H' s' → RelV v u → Q v H' → R u s') :
    wpAny (model X.prog X.w) A1 (call (.ref f) us) R E' s := by
  have e0 : Env0 X.prog X.w X.K X.mg X.base A1 X.stack s H := by
    have e := I.env0
    exact ⟨by rw [sb.fr]; exact e.frames, e.mod, e.bs, e.bsz, e.funs, e.frf, e.hok, e.bare⟩
  have hl := F.1 _ _ _ _ _ hsp
  refine wpAny_call (codeAny_mono (F.2 A1 X.stack s H ⟨us, []⟩ us vs Q E sb.room e0 (by
    have := b s us I.kIn (by rw [List.append_nil, ← r.length]; exact hl)
    simpa using this) r hsp) fun r s' hq => ?_)
  cases r with
  | error e => exact hq.elim
  | ok fl =>
    cases fl with
    | ret u =>
      obtain ⟨v, H', I', rv, q⟩ := I.after hq
      exact hR u v H' s' I' rv q
    | next => exact False.elim hq
    | brk => exact False.elim hq
    | cont => exact False.elim hq
/-- len(o) of an own instance -/
def rLenOwn (C : Addr) (sp : Sp) (E : XK) : List V → Hp → VK → Prop := fun xs H Q => ∃ a dx fs, xs = [.ref a] ∧ H a = some (.ins C dx fs) ∧ sp [.ref a] H (fun v H' => ∃ i : Int, v = .int i ∧ 0 ≤ i ∧ i < 2 ^ 63 ∧ Q (.int i) H') E
theorem call_lenOwn (hl : PySem.W.findIn X.K (.ref C) "__len__" = some (some (.ref f))) (hf : PySem.W.isFn X.K (.ref f) = true) (F : FnOk X.prog X.w X.K X.mg X.base CX0 n f fd ps sp) (b : Binds X.K fd ps []) (hr : Room (n + 1) X.A) : CallR X (.builtin "len") (rLenOwn C sp E) := by
  intro pins s σ H xs us Q I rv h
  obtain ⟨a, dx, fs, rfl, ha, hsp⟩ := h
  obtain ⟨u, rfl, ru⟩ := rv.one
  cases ru
  have sb : Sub X n X.A.in1 := Sub.in1 (⟨hr, rfl⟩ : Sub X (n + 1) X.A)
  obtain ⟨mA, J, _⟩ := ins_get I.hok ha
  obtain ⟨od, J, _⟩ := J.look
  refine Calls.call_function_entry kind_len plain_len entry_len (args_len1 _) ?_
  unfold Builtin.«len»
  refine wpAny_bind (m := oneArg "len" _) (wpAny_pure ?_)
  refine wpAny_bind (m := callSpecial? (.ref a) (PySem.Str.ofString "__len__")) (PySem.W.special_fn (args := []) I.kIn J hl (beq_iff_eq.mp hf) (run_own sb (FnOk.young F) b I (.cons (show RelV (.ref a) (.ref a) from rfl) .nil) hsp fun u v H' s' I' rv' q => ?_))
  obtain ⟨i, rfl, i0, i1, q⟩ := q
  obtain ⟨t, rfl⟩ := rv'
  refine wpAny_bind (wpAny_holding (wpAny_pure ?_))
  refine wpAny_bind (wpAny_letGo ?_)
  show wpAny _ _ (if i < 0 then _ else _) _ _ _
  rw [if_neg (by omega)]
  show wpAny _ _ (if i ≥ 2 ^ 63 then _ else _) _ _ _
  rw [if_neg (by omega)]
  exact wpAny_bind (wpAny_mkInt (wpAny_pure ⟨_, rfl, .int i, H', I'.tok _, ⟨_, rfl⟩, q⟩))
/-- for x in o, o an own instance whose __iter__ tells a list's iterator -/
def iOwnL (K : PySem.W.Frag) (n : Nat) (C : Addr) (spN : Nat → Sp) (E : XK) (te : TE) : TI := fun σ H R => te σ H fun x H1 => ∃ a dx fs, x = .ref a ∧ H1 a = some (.ins C dx fs) ∧ ∀ z, n ≤ z →
  spN z [.ref a] H1 (fun v H2 => ∃ it l, v = .ref it ∧ n ≤ it ∧ H2 it = some (ItO l it 0) ∧ R (Itl K l) (dropH H2 it)) E
theorem pi_ownL {spN : Nat → Sp} {tg e : Expr} {te : TE} (hc : X.calm = true) (he : PE X e te) (hi : PySem.W.findIn X.K (.ref C) "__iter__" = some (some (.ref f))) (hf : PySem.W.isFn X.K (.ref f) = true) (F : FnY X.prog X.w X.K X.mg X.base n f fd ps spN) (b : Binds X.K fd ps [])
    (hr : Room n X.A) : PI X tg e (iOwnL X.K X.s_0.heap.objs.size C spN E te) := by
  refine ⟨fun pins s σ H R I h => ?_⟩
  refine thn (he.run pins s σ H _ I h) fun v s1 ⟨x, H1, I1, r1, a, dx, fs, ex, ha, hsp⟩ => ?_
  subst ex
  cases r1
  have sb : Sub X n X.A := ⟨hr, rfl⟩
  obtain ⟨mA, J, _⟩ := ins_get I1.hok ha
  obtain ⟨od, J, _⟩ := J.look
  obtain ⟨m0, hF⟩ := I1.fr
  refine PySem.W.owit_iter hF I1.ok.mod.kin J hi hf (run_own sb F b I1 (.cons (show RelV (.ref a) (.ref a) from rfl) .nil) (hsp _ I1.sz) fun u v H2 s2 I2 rv q => ?_)
  obtain ⟨it, l, rfl, hn, e2, hR⟩ := q
  cases rv
  have eo := itO_get I2 e2
  have hT : s2.TypeIs (.ref it) "list_iterator" := ⟨_, eo, rfl⟩
  unfold PySem.W.OwitIt
  refine wpAny_specialOf (name := Str.ofString "__next__") hT slot_listiter_next.lookup ?_
  have st : s2.heap.IsListIter it l 0 := ⟨_, eo, rfl, rfl⟩
  have e2' := e2
  unfold ItO at e2'
  refine ⟨it, [it], _, _, dropH H2 it, rfl, inv_drop I2 e2', turn_list l it, st, fun b hb => ?_, hR⟩
  have e : b = it := by simpa using hb
  rw [e]
  exact inv_fp I2 e2 hn
end
/-- an empty tuple of the written part (a default) -/
def KT0 (K : PySem.W.Frag) (p : Addr) : Prop := ∃ (o : Obj) (n : Nat), K.lookup p = some o ∧ o.cls = .type "tuple" ∧ o.data = .seq #[] n
theorem KT0.sq {K : PySem.W.Frag} {p : Addr} (h : KT0 K p) (H : Hp) : SqT K H p [] := by
  obtain ⟨o, n, e, c, d⟩ := h
  exact .inr ⟨o, #[], n, e, c, d, Nat.zero_le _, .nil⟩
/-- a list, a tuple, or such a default -/
def RowAt (K : PySem.W.Frag) (H : Hp) (p : Addr) (xs : List V) : Prop := H p = some (.lst xs) ∨ H p = some (.tup xs) ∨ (xs = [] ∧ KT0 K p)
theorem RowAt.same [Lb.Tabl] {K : PySem.W.Frag} {H H' : Hp} {p : Addr} {xs : List V} (h : RowAt K H p xs) (s : Lb.Same H H') : RowAt K H' p xs := h.imp (s _ _) fun h => h.imp (s _ _) id
theorem RowAt.sq {K : PySem.W.Frag} {H : Hp} {p : Addr} {xs : List V} (h : RowAt K H p xs) : SqL K H p xs ∨ SqT K H p xs := by
  rcases h with h | h | ⟨rfl, h⟩
  · exact .inl (.inl (.inl h))
  · exact .inr (.inl (.inl h))
  · exact .inr (h.sq H)
end Own

namespace SkF
open PySem PySem.Spec PyProof.Rows L2
open Lb (Tabl Good)
/-! ### sorted(xs, key=f), f a def of the program that makes new things only -/
section
variable [Tabl]
theorem sqL_same {K : PySem.W.Frag} {H H' : Hp} {a : Addr} {xs : List V} (s : Lb.Same H H') (h : SqL K H a xs) : SqL K H' a xs := by
  rcases h with (h | ⟨o, h⟩) | h
  · exact .inl (.inl (s.old a _ h))
  · exact .inl (.inr ⟨o, s.old a _ h⟩)
  · exact .inr h
theorem sqT_same {K : PySem.W.Frag} {H H' : Hp} {a : Addr} {xs : List V} (s : Lb.Same H H') (h : SqT K H a xs) : SqT K H' a xs := by
  rcases h with h | h
  · first
      | exact .inl (s.old a _ h)
      | (rcases h with h | ⟨o, h⟩
         · exact .inl (.inl (s.old a _ h))
         · exact .inl (.inr ⟨o, s.old a _ h⟩))
  · exact .inr h
mutual
theorem dp_same {K : PySem.W.Frag} {H H' : Hp} (s : Lb.Same H H') : ∀ (d : PyData) (v : V), Dp K H v d → Dp K H' v d
  | .none, _, h => by
    cases h
    exact .non
  | .bool _, _, h => by
    cases h
    exact .bl _
  | .int _, _, h => by
    cases h
    exact .int _
  | .str _, _, h => by
    cases h
    exact .str _
  | .list ds, _, h => by
    cases h with
    | lst q a => exact .lst (sqL_same s q) (dpAll_same s ds _ a)
  | .tuple ds, _, h => by
    cases h with
    | tup q a => exact .tup (sqT_same s q) (dpAll_same s ds _ a)
  | .dict _, _, h => by cases h
theorem dpAll_same {K : PySem.W.Frag} {H H' : Hp} (s : Lb.Same H H') : ∀ (ds : List PyData) (vs : List V), DpAll K H vs ds → DpAll K H' vs ds
  | [], _, h => by
    cases h
    exact .nil
  | d :: ds, _, h => by
    cases h with
    | cons a b => exact .cons (dp_same s d _ a) (dpAll_same s ds _ b)
end
/-- what is wanted of the key -/
def spKeyD (K : PySem.W.Frag) (rel : Hp → V → PyData → Prop) : Sp := fun vs H Q _ => ∃ (x : V) (d : PyData), vs = [x] ∧ rel H x d ∧ ∀ (y : V) (H' : Hp), Lb.Same H H' → Dp K H' y d → Q y H'
section
variable {X : Cx} {pins : List (Addr × Obj)} {σ : L2.St} {H : Hp} {s : Shared}
def rSortKey (K : PySem.W.Frag) (f : Addr) (rel : Hp → V → PyData → Prop) : List V → List V → Hp → VK → Prop := fun vs zs H Q => ∃ (a : Addr) (xs : List V) (key : V → PyData), vs = [.ref a] ∧ zs = [.ref f] ∧ SqL K H a xs ∧ (∀ x ∈ xs, rel H x (key x)) ∧
  PySem.W.AllAlike (xs.map key) ∧ PySem.W.Sortable (xs.map key) ∧ (∀ x ∈ xs, (key x).depth ≤ 16) ∧ ∀ (l : Addr) (H' : Hp), Lb.Same H H' → H l = none → H' l = some (.lst (xs.mergeSort (PySem.W.dataLe false key))) → Q (.ref l) H'
end
end
end SkF

namespace DcT
open PySem PySem.Spec PyProof.Rows L2
section
variable {Z : Cx}
/-- d[k] = v by a comprehension, the key an int, a text or a tuple of them -/
theorem store {pn : List (Addr × Obj)} {τ : L2.St} {G G' : Hp} {t : Shared} {B : Value → Shared → Prop} {D : Addr} {y v : V} {u r : Value} {Q : Unit → Shared → Prop} (room : Z.A.units < cLine) (J : L2.Inv Z pn τ G t) (g : DPut G D y v G')
    (ry : RelV y u) (rv : RelV v r) (go : ∀ t', L2.Inv Z pn τ G' t' → Q () t') : wpAny (model Z.prog Z.w) Z.A (dictSet D u r) Q B t := by
  rcases g with ⟨kvs, k, at_, rfl, len, rfl⟩ | ⟨kvs, k, b, at_, rfl, key, len, rfl⟩
  · exact d_dictSet J at_ len ry rv go
  · obtain rfl : u = Value.ref b := ry
    obtain ⟨z, sys, xs, rel, dd⟩ := dt_of J.hok at_
    have more : (putK kvs k v).length ≤ sizeLine := by have := length_putK kvs k v; omega
    refine wpAny_dictSet_heap (hsz := by rw [← Paired.length rel]; exact z) (show Z.A.units < cLine from room) (key_of J.hok key) dd fun h' dd' but => go _ ?_
    obtain ⟨q, es, ep, hq, h2, h3, h4, _, h5⟩ := dd'
    refine d_write J (by rw [at_]; exact True.intro) but ⟨q, hq⟩ ⟨more, sys, _, (rel.put k key rv).keeps fun c ys ec => ?_, q, es, ep, hq, h2, h3, h4, h5⟩
    rw [upd_ne (ne_of ec at_ (fun z => nomatch z))]
    exact ec
/-- {k: v for target in iter if ..}, the keys tuples of ints and texts: D the new dict -/
def tDcT (wi : TI) (g : TG) (tt : TT) (tk tv : TE) (vs : List Nat) : TE := fun τ G Q => wi τ G fun J G1 => ∀ D, G1 D = none → ∃ W : Nat → Nat → Hp → Prop, (∃ m, W 0 m (upd G1 D (.dT []))) ∧
  ∀ i m G, W i m G → (J.stop i G ∧ Q (.ref D) G) ∨ (J.go i G ∧ ∃ Nx : Hp → Prop, (∀ G', Nx G' → ∃ m', m' < m ∧ W (i + 1) m' G') ∧
    ∀ x G', J.yld i G x G' → g x (wipe τ vs) G' fun τ2 G2 => wipe τ2 vs = wipe τ vs ∧ tt τ2 G2 fun b G3 => if b = true then tk τ2 G3 fun y G4 => tv τ2 G4 fun z G5 => ∃ G6, DPut G5 D y z G6 ∧ Nx G6 else Nx G3)
abbrev blkOf (Z : Cx) (t : Shared) (G : Hp) (sc : Scope) (C : Addr) (cl : List (Str × Addr)) (fp : List Addr) : Cx := Z.blk t G sc (compEnvC sc cl C Z.env) fp
end
end DcT

namespace EnT
open PySem PySem.Spec PyProof.Rows L2
/-! ### a list or a tuple walked; enumerate of a tuple -/
section
variable {X : Cx} {tg : Expr}
def iSeq (K : PySem.W.Frag) (te : TE) : TI := fun σ H R => te σ H fun v H1 => ∃ (a : Addr) (xs : List V), v = .ref a ∧ ((SqL K H1 a xs ∧ R (Itl K a) H1) ∨ (SqT K H1 a xs ∧ R (Itt K a) H1))
end
/-- the tuple at a, each item in a new pair -/
def IteT (K : PySem.W.Frag) (a : Addr) : It :=
  ⟨fun i H => ∃ (xs : List V) (x : V), SqT K H a xs ∧ xs[i]? = some x, fun i H v H' => ∃ T x, v = .ref T ∧ H T = none ∧ H' = upd H T (.tup [.int (i : Nat), x]) ∧ ∀ xs, SqT K H a xs → xs[i]? = some x, fun i H => ∃ xs : List V, SqT K H a xs ∧ xs.length = i⟩
section
variable {X : Cx} {tg : Expr}
def iEnumS (K : PySem.W.Frag) (ta : TA) : TI := fun σ H R => ta σ H fun vs H1 => ∃ (a : Addr) (xs : List V), vs = [.ref a] ∧ ((SqL K H1 a xs ∧ R (Ite K a) H1) ∨ (SqT K H1 a xs ∧ R (IteT K a) H1))
end
/-- a walk of n turns -/
theorem for_any {J : It} {n : Nat} {g : TG} {tb : TS} {D : Ends} {σ : L2.St} {H : Hp} (Pv : Nat → L2.St → Hp → Prop) (h0 : Pv 0 σ H)
    (go : ∀ i σ H, i < n → Pv i σ H → J.go i H ∧ ∀ x H', J.yld i H x H' → g x σ H' fun σ2 H2 => tb { D with nx := Pv (i + 1), ct := Pv (i + 1), bk := D.nx } σ2 H2) (stop : ∀ σ H, Pv n σ H → J.stop n H ∧ D.nx σ H) :
    ∃ W : Nat → Nat → L2.St → Hp → Prop, (∃ m, W 0 m σ H) ∧ ∀ i m σ H, W i m σ H →
      (J.stop i H ∧ D.nx σ H) ∨ (J.go i H ∧ ∃ N : L2.St → Hp → Prop, (∀ σ' H', N σ' H' → ∃ m', m' < m ∧ W (i + 1) m' σ' H') ∧ ∀ x H', J.yld i H x H' → g x σ H' fun σ2 H2 => tb { D with nx := N, ct := N, bk := D.nx } σ2 H2) := by
  refine ⟨fun i m σ H => m + i = n ∧ Pv i σ H, ⟨n, rfl, h0⟩, fun i m σ H ⟨e, p⟩ => ?_⟩
  by_cases lt : i < n
  · obtain ⟨a, b⟩ := go i σ H lt p
    exact .inr ⟨a, Pv (i + 1), fun σ' H' p' => ⟨m - 1, by omega, by omega, p'⟩, b⟩
  · have : i = n := by omega
    subst this
    exact .inl (stop σ H p)
end EnT

namespace SetQ
open PySem PySem.Spec PyProof.Rows L2 PySem.Froz
open Sem (wp)
/-! ### set(xs), xs a list of texts, now and then the same one again -/
section
variable {P : Program} {w : World} {A : Around} {R : Result → Shared → Prop} {I : Addr} {fp wr : List Addr} {G : Array GenState → Array GenState → Prop} {n : Nat} {Pv : Nat → Value → Prop} {St : Nat → Shared → Prop}
end
section
variable {P : Program} {w : World} {A : Around} {E : Value → Shared → Prop} {s : Shared}
end
section
variable {X : Cx}
def rSetL (P : Program) (w : World) (K : PySem.W.Frag) : List V → Hp → VK → Prop := fun vs H Q => ∃ (a : Addr) (xs : List Str), vs = [.ref a] ∧ SqL K H a (xs.map V.str) ∧ xs.length < 4096 ∧
  ∀ (p : Addr) (m : List Str), H p = none → m.Nodup → (∀ y, y ∈ m ↔ y ∈ xs) → m.length ≤ xs.length → Q (.ref p) (upd H p (SetTx P w p m))
end
end SetQ

namespace Lb
open PySem
end Lb
namespace SetQ
theorem both {α : Type} {a b : α} : ∀ {l : List α}, l.Nodup → [a, b].Sublist l → [b, a].Sublist l → False
  | [], _, h, _ => by cases h
  | c :: l, nd, h, k => by
    obtain ⟨n1, n2⟩ := List.nodup_cons.mp nd
    cases h with
    | cons _ h =>
      cases k with
      | cons _ k => exact both n2 h k
      | cons_cons _ k => exact n1 (h.subset (List.mem_cons_of_mem _ List.mem_cons_self))
    | cons_cons _ h =>
      cases k with
      | cons _ k => exact n1 (k.subset (List.mem_cons_of_mem _ List.mem_cons_self))
      | cons_cons _ k => exact n1 (h.subset List.mem_cons_self)
end SetQ
namespace SetQ
open PySem PySem.Spec PyProof.Rows L2
/-! ### sorted(xs, key=len), xs a list of texts -/
def lenLe (x y : Str) : Bool := decide (x.length ≤ y.length)
def lenSort (xs : List Str) : List Str := xs.mergeSort lenLe
/-- the word order -/
def Bef (x y : Str) : Prop := x.length < y.length ∨ (x.length = y.length ∧ x.cps.toList < y.cps.toList)
def rSortLen (K : PySem.W.Frag) : List V → Hp → VK → Prop := fun vs H Q => ∃ (a : Addr) (xs : List Str), vs = [V.ref a] ∧ SqL K H a (xs.map V.str) ∧ (∀ x ∈ xs, x.length ≤ sizeLine) ∧ ∀ p, H p = none → Q (.ref p) (upd H p (.lst ((lenSort xs).map V.str)))
section
variable {X : Cx}
def tSortLen (K : PySem.W.Frag) (t : TA) : TE := fun σ H Q => t σ H fun vs H1 => rSortLen K vs H1 Q
end
end SetQ

namespace MinQ
open PySem PySem.Spec PyProof.Rows L2
/-! ### min(xs, key=f, default=None), f(x) the pair (len(x), x), xs a list of texts -/
def kLt (x y : Str) : Bool := if x.length = y.length then decide (x.cps.toList < y.cps.toList) else decide (x.length < y.length)
def btS (xs : List Str) (i j : Nat) : Bool := match xs[i]?, xs[j]? with
  | some x, some y => kLt x y
  | _, _ => false
/-- what is wanted of the key -/
def spKey : Sp := fun vs _ Q _ => ∃ x : Str, vs = [.str x] ∧ x.length ≤ 4000000 ∧ ∀ (p : Addr) (H' : Hp), H' p = some (.tup [.int ((x.length : Nat) : Int), .str x]) → Q (.ref p) H'
/-- all but the frames' own slots stands -/
structure KeepF (fs : List Addr) (s0 s : Shared) : Prop where
  keep : ∀ b o, s0.heap.get? b = some o → b ∉ fs → s.heap.get? b = some o
  slot : ∀ b o, s0.heap.get? b = some o → b ∈ fs → ∃ sl, s.heap.get? b = some { o with slots := sl }
  os : s.os = s0.os
  bare : AllBare s.gens
theorem KeepF.trans {fs : List Addr} {s0 s1 s2 : Shared} (h : KeepF fs s0 s1) (k : KeepF fs s1 s2) : KeepF fs s0 s2 where
  keep := fun b o e n => k.keep b o (h.keep b o e n) n
  slot := fun b o e m => by
    obtain ⟨sl, q⟩ := h.slot b o e m
    obtain ⟨sl2, q2⟩ := k.slot b _ q m
    exact ⟨sl2, q2⟩
  os := k.os.trans h.os
  bare := k.bare
section
variable {X : Cx} {pins : List (Addr × Obj)} {s s' s0 : Shared} {σ : L2.St} {H : Hp}
theorem KeepF.inv (I : Inv X pins σ H s) (k : KeepF (frs X.stack) s s') : Inv X pins σ H s' := by
  refine I.call' (ch := []) k.os ⟨fun b o e n hb _ => k.keep b o e hb, fun b o e n hb _ => k.slot b o e hb, fun b o e n _ => n, fun b o e _ => ?_, fun b xs e => e, fun b o u e => e, fun b ps e => ⟨#[], by rw [Array.append_empty]; exact e⟩⟩ (fun a o e => ?_) k.bare (fun b z => absurd z List.not_mem_nil)
  · by_cases hb : b ∈ frs X.stack
    · obtain ⟨sl, q⟩ := k.slot b o e hb
      exact ⟨_, q⟩
    · exact ⟨_, k.keep b o e hb⟩
  · refine (I.hok a o e).stay (fun b u hb q => k.keep b u q fun z => ?_) (fun _ q => q) fun _ _ q => q
    have free := I.stkFree b z
    rcases hb with hb | hb
    · rw [hb, e] at free
      cases free
    · rw [hb] at free
      cases free
theorem KeepF.env {A : Around} (I : Inv X pins σ H s0) (k : KeepF (frs X.stack) s0 s) (hsz : s0.heap.objs.size ≤ s.heap.objs.size) (hf : A.frames = some X.stack) : Env0 X.prog X.w X.K X.mg X.base A X.stack s (fun _ => none) where
  frames := hf
  mod := I.ok.mod
  bs := fun b o e => ⟨k.keep b o (I.bk b o e) fun z => (by
    have := (I.stack.mem z).1
    rw [e] at this
    cases this), rfl⟩
  bsz := Nat.le_trans I.ok.bsz (Nat.le_trans I.sz hsz)
  funs := I.stack.of_keeps fun b o e _ => by
    by_cases hb : b ∈ frs X.stack
    · obtain ⟨sl, q⟩ := k.slot b o e hb
      exact ⟨_, q, rfl⟩
    · exact ⟨_, k.keep b o e hb, rfl⟩
  frf := fun _ _ => rfl
  hok := fun a o e => nomatch e
  bare := k.bare
/-- the key's pair at t -/
def KeyAt (h : Heap) (t : Addr) (x : Str) : Prop := ∃ u v : Tok, IsTup h t #[.int ((x.length : Nat) : Int) u, .str x v]
def VKey (fs : List Addr) (n : Nat) (xs : List Str) (i : Nat) (ki : Value) (s : Shared) : Prop := ∃ (t : Addr) (x : Str), ki = .ref t ∧ xs[i]? = some x ∧ t ∉ [n + 1, n] ∧ t ∉ fs ∧ KeyAt s.heap t x
end
end MinQ

namespace MinQ
open PySem PySem.Spec PyProof.Rows L2
theorem kLt_true {x y : Str} : kLt x y = true ↔ x.length < y.length ∨ (x.length = y.length ∧ x.cps.toList < y.cps.toList) := by
  unfold kLt
  by_cases h : x.length = y.length
  · rw [if_pos h, decide_eq_true_iff]
    exact ⟨fun z => .inr ⟨h, z⟩, fun z => z.elim (fun q => absurd q (by omega)) (·.2)⟩
  · rw [if_neg h, decide_eq_true_iff]
    exact ⟨.inl, fun z => z.elim id fun q => absurd q.1 h⟩
section
variable {X : Cx}
def rMinKey (K : PySem.W.Frag) (f : Addr) : List V → List V → Hp → VK → Prop := fun vs zs H Q => ∃ (a : Addr) (xs : List Str), vs = [V.ref a] ∧ zs = [.ref f, .non] ∧ SqL K H a (xs.map V.str) ∧ (∀ x ∈ xs, x.length ≤ 4000000) ∧
  (xs = [] → Q .non H) ∧ ∀ x ∈ xs, (∀ y ∈ xs, kLt y x = false) → Q (.str x) H
end
end MinQ

namespace Lb
open PySem PySem.Spec PyProof.Rows L2
/-! ### x[::-1] of a text -/
def revS (z : Str) : Str := ⟨(cs z).reverse.toArray⟩
def tRevT (te : TE) : TE := fun σ H Q => te σ H fun x H1 => ∃ z : Str, x = .str z ∧ z.length ≤ sizeLine ∧ Q (.str (revS z)) H1
end Lb


namespace EnS
open PySem PySem.Spec PyProof.Rows L2 SetQ
open PySem.W (dataLt alike dataLe)
/-! ### the order of pairs and arcs -/
def wkey (x : Str) : PyData := .tuple [.int ((x.length : Nat) : Int), .str x]
def pkey (i : Int) (x : Str) : PyData := .tuple [.int i, wkey x]
def akey (i : Int) (l x : Str) (j : Int) : PyData := .tuple [.int i, .str l, wkey x, .int j]
theorem alike_ii (i j : Int) : alike (.int i) (.int j) = true := by simp [alike]
theorem alike_ss (x y : Str) : alike (.str x) (.str y) = true := by simp [alike]
theorem alike_w (x y : Str) : alike (wkey x) (wkey y) = true := by simp [wkey, alike, PySem.W.alikeAll]
theorem eqv_ii (i j : Int) : PyData.eqv (.int i) (.int j) = true ↔ i = j := by simp [PyData.eqv]
theorem eqv_ss (x y : Str) : PyData.eqv (.str x) (.str y) = true ↔ x = y := by simp [PyData.eqv]
theorem eqv_w (x y : Str) : PyData.eqv (wkey x) (wkey y) = true ↔ x = y := by
  unfold wkey
  simp only [PyData.eqv, PyData.eqvAll, Bool.and_true, Bool.and_eq_true, beq_iff_eq]
  exact ⟨fun h => h.2, fun h => ⟨by rw [h], h⟩⟩
theorem lt_w (x y : Str) : dataLt (wkey x) (wkey y) = MinQ.kLt x y := by
  unfold wkey
  rw [PySem.W.dataLt_pair (alike_ii _ _) (alike_ss _ _), PySem.W.dataLt_int, PySem.W.dataLt_str]
  unfold MinQ.kLt
  by_cases h : x.length = y.length
  · rw [if_pos ((eqv_ii _ _).mpr (by rw [h])), if_pos h]
    by_cases e : x = y
    · subst e
      rw [if_pos ((eqv_ss _ _).mpr rfl)]
      exact (decide_eq_false (List.lt_irrefl _)).symm
    · rw [if_neg fun z => e ((eqv_ss _ _).mp z)]
  · rw [if_neg (fun z => h (by have := (eqv_ii _ _).mp z; omega)), if_neg h]
    exact decide_eq_decide.mpr (by omega)
theorem kTri {x y : Str} (h : MinQ.kLt x y = false) (ne : x ≠ y) : Bef y x := by
  refine Classical.byContradiction fun n => ?_
  have h1 : ¬ Bef x y := fun b => by
    rw [MinQ.kLt_true.mpr b] at h
    cases h
  unfold Bef at n h1
  have le : x.length = y.length := by omega
  have a : ¬ x.cps.toList < y.cps.toList := fun z => h1 (.inr ⟨le, z⟩)
  have b : ¬ y.cps.toList < x.cps.toList := fun z => n (.inr ⟨le.symm, z⟩)
  have e := List.le_antisymm (List.not_lt.mp b) (List.not_lt.mp a)
  refine ne ?_
  cases x with | mk p => cases y with | mk q =>
  have : p.toList = q.toList := e
  rw [Array.toList_inj.mp this]
/-- the pairs in their order -/
def PLt (e f : Int × Str) : Prop := e.1 < f.1 ∨ (e.1 = f.1 ∧ Bef e.2 f.2)
theorem le_pkey {e f : Int × Str} (h : (!dataLt (pkey f.1 f.2) (pkey e.1 e.2)) = true) (ne : e ≠ f) : PLt e f := by
  unfold pkey at h
  rw [PySem.W.dataLt_pair (alike_ii _ _) (alike_w _ _), PySem.W.dataLt_int, lt_w] at h
  by_cases hi : f.1 = e.1
  · rw [if_pos ((eqv_ii _ _).mpr hi)] at h
    by_cases hx : f.2 = e.2
    · exact (ne (Prod.ext hi.symm hx.symm)).elim
    · rw [if_neg fun z => hx ((eqv_w _ _).mp z)] at h
      refine .inr ⟨hi.symm, kTri ?_ hx⟩
      cases k : MinQ.kLt f.2 e.2 with
      | false => rfl
      | true =>
        rw [k] at h
        cases h
  · rw [if_neg fun z => hi ((eqv_ii _ _).mp z)] at h
    by_cases lt : f.1 < e.1
    · rw [decide_eq_true lt] at h
      cases h
    · exact .inl (by omega)
/-- the arcs in their order: state, letter, word, state -/
abbrev Arc := Int × Str × Str × Int
def ALt (e f : Arc) : Prop := e.1 < f.1 ∨ (e.1 = f.1 ∧ (e.2.1.cps.toList < f.2.1.cps.toList ∨ (e.2.1 = f.2.1 ∧ (Bef e.2.2.1 f.2.2.1 ∨ (e.2.2.1 = f.2.2.1 ∧ e.2.2.2 < f.2.2.2)))))
theorem le_akey {e f : Arc} (h : (!dataLt (akey f.1 f.2.1 f.2.2.1 f.2.2.2) (akey e.1 e.2.1 e.2.2.1 e.2.2.2)) = true) (ne : e ≠ f) : ALt e f := by
  unfold akey at h
  rw [PySem.W.dataLt_tuple, PySem.W.dataLt_cons (alike_ii _ _), PySem.W.dataLt_cons (alike_ss _ _), PySem.W.dataLt_cons (alike_w _ _), PySem.W.dataLt_cons (alike_ii _ _), PySem.W.dataLt_int, PySem.W.dataLt_int, PySem.W.dataLt_str, lt_w] at h
  by_cases hi : f.1 = e.1
  case neg =>
    rw [if_neg fun z => hi ((eqv_ii _ _).mp z)] at h
    by_cases lt : f.1 < e.1
    · rw [decide_eq_true lt] at h
      cases h
    · exact .inl (by omega)
  rw [if_pos ((eqv_ii _ _).mpr hi)] at h
  refine .inr ⟨hi.symm, ?_⟩
  by_cases hl : f.2.1 = e.2.1
  case neg =>
    rw [if_neg fun z => hl ((eqv_ss _ _).mp z)] at h
    refine .inl (Classical.byContradiction fun n => ?_)
    by_cases lt : f.2.1.cps.toList < e.2.1.cps.toList
    · rw [decide_eq_true lt] at h
      cases h
    · have q := List.le_antisymm (List.not_lt.mp n) (List.not_lt.mp lt)
      refine hl ?_
      generalize f.2.1 = x at q ⊢
      generalize e.2.1 = y at q ⊢
      cases x with | mk p => cases y with | mk r =>
      have : p.toList = r.toList := q
      rw [Array.toList_inj.mp this]
  rw [if_pos ((eqv_ss _ _).mpr hl)] at h
  refine .inr ⟨hl.symm, ?_⟩
  by_cases hx : f.2.2.1 = e.2.2.1
  case neg =>
    rw [if_neg fun z => hx ((eqv_w _ _).mp z)] at h
    refine .inl (kTri ?_ hx)
    cases k : MinQ.kLt f.2.2.1 e.2.2.1 with
    | false => rfl
    | true =>
      rw [k] at h
      cases h
  rw [if_pos ((eqv_w _ _).mpr hx)] at h
  refine .inr ⟨hx.symm, ?_⟩
  by_cases hj : f.2.2.2 = e.2.2.2
  · exact (ne (Prod.ext hi.symm (Prod.ext hl.symm (Prod.ext hx.symm hj.symm)))).elim
  · rw [if_neg fun z => hj ((eqv_ii _ _).mp z)] at h
    by_cases lt : f.2.2.2 < e.2.2.2
    · rw [decide_eq_true lt] at h
      cases h
    · omega
theorem sort_pair {α : Type} (key : α → PyData) (xs : List α) : (xs.mergeSort (dataLe false key)).Pairwise fun a b => (!dataLt (key b) (key a)) = true :=
  PySem.W.sort_pairwise (le := dataLe false key) (show PySem.W.TotalLe (dataLe false key) from PySem.W.sortLe_total _ false _) xs
end EnS

namespace Lb
open PySem PySem.Spec PyProof.Rows L2
/-! ### o.m(..) of an own instance, where it may raise -/
section
variable {X : Cx} {CX : CXT} {o e : Expr} {es : List Expr} {m : Str} {C f : Addr} {k : Nat} {fd : FuncData} {ps : List Str} {sp : Sp} {E : L2.St → XK} {ta : TE} {t : TA} {apos pos : Pos}
def tMethS (C : Addr) (m : Str) (sp : Sp) (E : L2.St → XK) (ta : TE) (t : TA) : TE := fun σ H Q => ta σ H fun x H1 => ∃ a dx fs, x = .ref a ∧ H1 a = some (.ins C dx fs) ∧ fs.lookup m = none ∧ t σ H1 fun vs H2 => sp (x :: vs) H2 Q (E σ)
theorem pe_methS {pl : Sem Bool} (he : PE X o ta) (c : Cls X.K C) (hm : Meth X.K C m f) (F : FnOk X.prog X.w X.K X.mg X.base CX k f fd ps sp) (hr : Room k X.A) (hb : L2.Binds X.K fd ps []) (hx : ∀ σ, PassesAt CX X σ (E σ)) (ha : PA X (e :: es) t)
    (hst : starEach (e :: es) X.env = (false, eval e X.env) :: starEach es X.env := by rfl) (hpl : (backTo pos (starEach es X.env)).any (·.1) = false := by rfl)
    (ht : eval (.Call (.Attribute o m apos) (e :: es) [] pos) X.env = (do
      let ov ← eval o X.env
      standAt apos.atName
      let (f, first) ← holding [ov] (getMethod ov m pl)
      callWith pos f first (backTo pos (starEach (e :: es) X.env)) (backToKw pos (keywordEach [] X.env))) := by rfl) :
    PE X (.Call (.Attribute o m apos) (e :: es) [] pos) (tMethS C m sp E ta t) := by
  refine ⟨fun pins s σ H Q I h => ?_⟩
  refine PySem.W.methodCall_KW (pl := pl) (thn (he.run pins s σ H _ I h) fun u s1 ⟨x, H1, I1, rx, a, dx, fs, ex, ea, l, q⟩ => ?_) ht
  subst ex
  obtain rfl : u = Value.ref a := rx
  refine getmeth_ok I1 ea c hm l ?_
  refine PySem.W.callWith_K (first := [.ref a]) (h₀ := X.base) I.ok.mod.kin hm.kp (thn (ha.run pos pins s1 σ H1 _ I1 q) fun us s2 ⟨vs, H2, I2, r, q2⟩ => ⟨I2.kIn, ?_⟩) hst hpl
  exact run_fnS (us := .ref a :: us) (vs := .ref a :: vs) F hr hb (hx σ) I2 (.cons rfl r) q2
theorem pe_methS0 {pl : Sem Bool} (he : PE X o ta) (c : Cls X.K C) (hm : Meth X.K C m f) (F : FnOk X.prog X.w X.K X.mg X.base CX k f fd ps sp) (hr : Room k X.A) (hb : L2.Binds X.K fd ps []) (hx : ∀ σ, PassesAt CX X σ (E σ))
    (ht : eval (.Call (.Attribute o m apos) [] [] pos) X.env = (do
      let ov ← eval o X.env
      standAt apos.atName
      let (f, first) ← holding [ov] (getMethod ov m pl)
      callWith pos f first (backTo pos (starEach [] X.env)) (backToKw pos (keywordEach [] X.env))) := by rfl) :
    PE X (.Call (.Attribute o m apos) [] [] pos) (tMethS C m sp E ta tNil) := by
  refine ⟨fun pins s σ H Q I h => ?_⟩
  refine PySem.W.methodCall_KW (pl := pl) (thn (he.run pins s σ H _ I h) fun u s1 ⟨x, H1, I1, rx, a, dx, fs, ex, ea, l, q⟩ => ?_) ht
  subst ex
  obtain rfl : u = Value.ref a := rx
  refine getmeth_ok I1 ea c hm l ?_
  exact PySem.W.callWith_K0 (first := [.ref a]) I1.kIn hm.kp (run_fnS (us := [.ref a]) (vs := [.ref a]) F hr hb (hx σ) I1 (.cons rfl .nil) q)
end
end Lb

namespace Lb
open PySem PySem.Spec PyProof.Rows L2
/-! ### a class with an own __init__(self, f, g): self.f = f; self.g = g -/
def sp_init2 (K : PySem.W.Frag) (f g : Str) : Sp := fun vs H Q _ => ∃ (a C : Addr) (v u : V), vs = [.ref a, v, u] ∧ OexC K C ∧ PySem.W.findIn K (.ref C) f = some none ∧ PySem.W.findIn K (.ref C) g = some none ∧ H a = some (exo a C none) ∧
  ∀ dx, H dx = none → dx ≠ a → Q .non (upd (upd (upd H dx (exd dx [(f, v)])) a (exo a C (some dx))) dx (exd dx [(g, u), (f, v)]))
/-- C(e1, e2): a new error, its fields f and g -/
def tErr2 (C : Addr) (f g : Str) (ta : TA) : L2.St → Hp → XK → Prop := fun σ H Q => ta σ H fun vs H1 => ∃ v u, vs = [v, u] ∧ ∀ d, H1 d = none → Q (.ref C) (some d) (upd H1 d (.xd [(g, u), (f, v)]))
/-! ### C(e, .., k = v, ..), its error passed on -/
def tMakeKS (C : Addr) (n m : Nat) (sp : Sp) (gV : List V → List V → List V) (E : L2.St → XK) (t tk : TA) : TE := fun σ H Q => t σ H fun vs H1 => tk σ H1 fun zs H2 => vs.length = n ∧ zs.length = m ∧ ∀ x dx, H2 x = none → H2 dx = none → dx ≠ x →
  sp (gV (.ref x :: vs) zs) (upd (upd H2 dx (.own x)) x (.ins C dx [])) (fun v H3 => v = .non ∧ Q (.ref x) H3) (E σ)
section
variable {X : Cx} {CX : CXT} {k n : Nat} {f C : Addr} {fd : FuncData} {ps ks : List Str} {sp : Sp} {E : L2.St → XK} {x : Str} {p pos : Pos} {e : Expr} {es : List Expr} {kws : List Keyword} {t tk : TA} {g : List Value → List Value → List Value} {gV : List V → List V → List V}
end
/-- X() of an own error class with no field -/
theorem pmk_own0 {X : Cx} {C : Addr} {bmB : List Value} {B newId initId : String} {x : Str} {p pos : Pos} (F : ExcBaseFacts B newId initId bmB) (q : PySem.W.excIn X.K C bmB newId = true) (gC : X.mg x = some (.ref C)) (kC : PySem.W.keepIn X.K (.ref C) = true) (r : Raises X (.ref C)) (hg : Gl X x)
    (hdb : (x == ("__debug__" : Str)) = false := by decide) : PMk X (.Call (.Name x p) [] [] pos) (fun _ H Q => Q (.ref C) none H) := by
  intro pins s σ H Q I h
  refine wpAny_Call_Name_kw (ld_glob I hg gC ?_ hdb)
  refine PySem.W.callWith_K0 I.kIn kC ?_
  show wpAny _ _ (call (.ref C) []) _ _ _
  obtain ⟨bm, N, nm, qn, bs, hdct, sn, sub, ab, col, dd, k0, k1, k2, k3, k5, mN, hC, hN, hni, T⟩ := exc_obj I.kIn q
  refine wpAny_call_exc_subT F T hC hN hni (fun h' e hm => ?_) (by show 0 ≤ sizeLine; decide)
  exact mk_of I hm r h (I.hok.gone hm.new)
end Lb

namespace Lb
open PySem PySem.Spec PyProof.Rows L2
def inR : V → Int → Int → Bool
  | .int i, lo, hi => decide (lo ≤ i) && decide (i ≤ hi)
  | _, _, _ => false
/-- an error of the class at C with that value, at any later heap -/
def Raised [Tabl] (H : Hp) (C : Addr) (v : V) (E : XK) : Prop := ∀ (d : Addr) (H1 H' : Hp), Same H H1 → H1 d = none → H' = upd H1 d (.xd [("value", v)]) → E (.ref C) (some d) H'
theorem Raised.same [Tabl] {H H1 : Hp} {C : Addr} {v : V} {E : XK} (r : Raised H C v E) (s : Same H H1) : Raised H1 C v E := fun d H2 H' s2 n e => r d H2 H' (s.trans s2) n e
/-- v is an alphabet, v is a word over the alphabet L -/
def AlphaV (v : V) : Prop := ∃ z, v = .str z ∧ IsAlpha z
def WordV (L v : V) (m : Nat) : Prop := ∃ z x, L = .str z ∧ v = .str x ∧ IsAlpha z ∧ Over z x ∧ x.length ≤ m
def plainV : V → Bool
  | .non => true
  | .bl _ => true
  | .int _ => true
  | .str _ => true
  | _ => false
/-- equal plain values, or two tuples, two lists with items that rel relates -/
def SameR (rel : Hp → V → V → Prop) (H : Hp) (x y : V) : Prop := (x = y ∧ plainV y = true) ∨ ∃ (p q : Addr) (xs ys : List V), x = .ref p ∧ y = .ref q ∧
  ((H p = some (.tup xs) ∧ H q = some (.tup ys)) ∨ (H p = some (.lst xs) ∧ H q = some (.lst ys))) ∧ xs.length = ys.length ∧ ys.length ≤ 4000000 ∧ ∀ (i : Nat) (x' y' : V), xs[i]? = some x' → ys[i]? = some y' → rel H x' y'
def SameD : Nat → Hp → V → V → Prop
  | 0 => SameR fun _ _ _ => False
  | n + 1 => SameR (SameD n)
/-- a plain value of at most n levels, apart from the store at a -/
def DeepR (a : Addr) (rel : Hp → V → Prop) (H : Hp) (v : V) : Prop := (plainV v = true ∧ (∀ x : Str, v = .str x → x.length ≤ 4000000) ∧ ∀ i : Int, v = .int i → i.natAbs < 2 ^ 13000) ∨
  ∃ (p : Addr) (xs : List V), v = .ref p ∧ p ≠ a ∧ (H p = some (.lst xs) ∨ H p = some (.tup xs)) ∧ xs.length ≤ 4000000 ∧ ∀ x ∈ xs, rel H x
def Deep (a : Addr) : Nat → Hp → V → Prop
  | 0 => DeepR a fun _ _ => False
  | n + 1 => DeepR a (Deep a n)
theorem Deep.but [Tabl] {a : Addr} {H H' : Hp} (k : But a H H') : ∀ {n : Nat} {v : V}, Deep a n H v → Deep a n H' v
  | 0, v, h => h.elim .inl fun ⟨p, xs, e, ne, o, l, r⟩ => .inr ⟨p, xs, e, ne, o.elim (fun q => .inl (k _ _ ne q)) (fun q => .inr (k _ _ ne q)), l, r⟩
  | n + 1, v, h => h.elim .inl fun ⟨p, xs, e, ne, o, l, r⟩ => .inr ⟨p, xs, e, ne, o.elim (fun q => .inl (k _ _ ne q)) (fun q => .inr (k _ _ ne q)), l, fun x m => Deep.but k (r x m)⟩
theorem Deep.same [Tabl] {a : Addr} {H H' : Hp} {n : Nat} {v : V} (h : Deep a n H v) (s : Same H H') : Deep a n H' v := h.but (But.same s)
theorem Deep.up {a : Addr} {H : Hp} : ∀ {n : Nat} {v : V}, Deep a n H v → Deep a (n + 1) H v
  | 0, v, h => h.elim .inl fun ⟨p, xs, e, ne, o, l, r⟩ => .inr ⟨p, xs, e, ne, o, l, fun x m => (r x m).elim⟩
  | n + 1, v, h => h.elim .inl fun ⟨p, xs, e, ne, o, l, r⟩ => .inr ⟨p, xs, e, ne, o, l, fun x m => Deep.up (r x m)⟩
theorem Deep.le {a : Addr} {H : Hp} {n m : Nat} {v : V} (h : Deep a n H v) (l : n ≤ m) : Deep a m H v := by
  induction l with
  | refl => exact h
  | step _ ih => exact ih.up
theorem Deep.shal {a : Addr} {H : Hp} {n : Nat} {v : V} (h : Deep a n H v) : Shal H v := by
  have key : ∀ rel, DeepR a rel H v → Shal H v := by
    rintro rel (⟨pl, tx, _⟩ | ⟨p, xs, e, _, o, _⟩)
    · cases v with
      | non => exact .inr (.inl rfl)
      | bl b => exact .inr (.inr (.inl ⟨b, rfl⟩))
      | int i => exact .inr (.inr (.inr (.inl ⟨i, rfl⟩)))
      | str x => exact .inl ⟨x, rfl, tx x rfl⟩
      | _ => cases pl
    · exact .inr (.inr (.inr (.inr ⟨p, xs, e, o⟩)))
  cases n with
  | zero => exact key _ h
  | succ n => exact key _ h
theorem deep_atom {a : Addr} {H : Hp} {n : Nat} {v : V} (pl : plainV v = true) (tx : ∀ x : Str, v = .str x → x.length ≤ 4000000) (it : ∀ i : Int, v = .int i → i.natAbs < 2 ^ 13000) : Deep a n H v := by
  cases n <;> exact .inl ⟨pl, tx, it⟩
theorem deep_str {a : Addr} {H : Hp} {n : Nat} {x : Str} (l : x.length ≤ 4000000) : Deep a n H (.str x) := deep_atom rfl (fun y e => by cases e; exact l) (fun i e => by cases e)
theorem deep_int {a : Addr} {H : Hp} {n : Nat} {i : Int} (l : i.natAbs < 2 ^ 13000) : Deep a n H (.int i) := deep_atom rfl (fun y e => by cases e) (fun j e => by cases e; exact l)
theorem deep_non {a : Addr} {H : Hp} {n : Nat} : Deep a n H .non := deep_atom rfl (fun y e => by cases e) (fun i e => by cases e)
theorem deep_bl {a : Addr} {H : Hp} {n : Nat} {b : Bool} : Deep a n H (.bl b) := deep_atom rfl (fun y e => by cases e) (fun i e => by cases e)
theorem deep_lst {a p : Addr} {H : Hp} {n : Nat} {xs : List V} (ne : p ≠ a) (e : H p = some (.lst xs)) (l : xs.length ≤ 4000000) (r : ∀ x ∈ xs, Deep a n H x) : Deep a (n + 1) H (.ref p) := .inr ⟨p, xs, rfl, ne, .inl e, l, r⟩
theorem deep_tup {a p : Addr} {H : Hp} {n : Nat} {xs : List V} (ne : p ≠ a) (e : H p = some (.tup xs)) (l : xs.length ≤ 4000000) (r : ∀ x ∈ xs, Deep a n H x) : Deep a (n + 1) H (.ref p) := .inr ⟨p, xs, rfl, ne, .inr e, l, r⟩
theorem Deep.samed {a : Addr} {H : Hp} : ∀ {n : Nat} {v : V}, Deep a n H v → SameD n H v v
  | 0, v, h => h.elim (fun q => .inl ⟨rfl, q.1⟩) fun ⟨p, xs, e, ne, o, l, r⟩ => .inr ⟨p, p, xs, xs, e, e, o.elim (fun q => .inr ⟨q, q⟩) (fun q => .inl ⟨q, q⟩), rfl, l, fun i x y ex ey => (r x (List.mem_of_getElem? ex)).elim⟩
  | n + 1, v, h => h.elim (fun q => .inl ⟨rfl, q.1⟩) fun ⟨p, xs, e, ne, o, l, r⟩ => .inr ⟨p, p, xs, xs, e, e, o.elim (fun q => .inr ⟨q, q⟩) (fun q => .inl ⟨q, q⟩), rfl, l, fun i x y ex ey => by
      rw [ex] at ey
      cases ey
      exact Deep.samed (r x (List.mem_of_getElem? ex))⟩
theorem SameD.keep [Tabl] {H H' : Hp} (s : Same H H') : ∀ {n : Nat} {x y : V}, SameD n H x y → SameD n H' x y
  | 0, x, y, h => h.elim .inl fun ⟨p, q, xs, ys, e1, e2, o, l, m, r⟩ => .inr ⟨p, q, xs, ys, e1, e2, o.elim (fun z => .inl ⟨s _ _ z.1, s _ _ z.2⟩) (fun z => .inr ⟨s _ _ z.1, s _ _ z.2⟩), l, m, fun i a b ea eb => (r i a b ea eb).elim⟩
  | n + 1, x, y, h => h.elim .inl fun ⟨p, q, xs, ys, e1, e2, o, l, m, r⟩ => .inr ⟨p, q, xs, ys, e1, e2, o.elim (fun z => .inl ⟨s _ _ z.1, s _ _ z.2⟩) (fun z => .inr ⟨s _ _ z.1, s _ _ z.2⟩), l, m, fun i a b ea eb => SameD.keep s (r i a b ea eb)⟩
theorem nodup_len : ∀ (l D : List Nat), l.Nodup → (∀ x ∈ l, x ∈ D) → l.length ≤ D.length
  | [], _, _, _ => Nat.zero_le _
  | x :: l, D, nd, h => by
    obtain ⟨h1, h2⟩ := List.nodup_cons.mp nd
    have ih := nodup_len l (D.erase x) h2 fun y hy => (List.mem_erase_of_ne (fun e : y = x => h1 (by rw [← e]; exact hy))).mpr (h y (List.mem_cons_of_mem _ hy))
    have m := h x (List.mem_cons_self ..)
    rw [List.length_erase_of_mem m] at ih
    have := List.length_pos_of_mem m
    rw [List.length_cons]
    omega
theorem join0_len (ys : List Str) : (Txt.join (Str.ofString "") ys).length = (ys.map (·.length)).sum := by
  rw [← cs_len, cs_join0, List.length_flatten, List.map_map]
  congr 1
theorem up3 (c : Nat) : (Txt.upper ⟨#[c]⟩).length ≤ 3 := by
  have h := PyProof.Rows.len_upper (⟨#[c]⟩ : Str)
  have e : (⟨#[c]⟩ : Str).length = 1 := rfl
  omega
theorem Deep.avoid {a D : Addr} {H : Hp} (nd : H D = none) : ∀ {n : Nat} {v : V}, Deep a n H v → Deep D n H v
  | 0, v, h => h.elim .inl fun ⟨p, xs, e, _, o, l, r⟩ => .inr ⟨p, xs, e, fun z => by subst z; rcases o with o | o <;> (rw [nd] at o; cases o), o, l, r⟩
  | n + 1, v, h => h.elim .inl fun ⟨p, xs, e, _, o, l, r⟩ => .inr ⟨p, xs, e, fun z => by subst z; rcases o with o | o <;> (rw [nd] at o; cases o), o, l, fun x m => Deep.avoid nd (r x m)⟩
theorem same_row {H : Hp} {p : Addr} {xs ys : List V} (h : H p = some (.lst xs) ∨ H p = some (.tup xs)) (k : H p = some (.lst ys) ∨ H p = some (.tup ys)) : xs = ys := by
  rcases h with h | h <;> rcases k with k | k <;> (rw [h] at k; cases k) <;> rfl
theorem Deep.put [Tabl] {b D : Addr} {H H' : Hp} (k : But D H H') : ∀ {n : Nat} {v : V}, Deep b n H v → Deep D n H v → Deep b n H' v
  | 0, v, h, g => h.elim .inl fun ⟨p, xs, e, ne, o, l, r⟩ => g.elim .inl fun ⟨q, ys, e2, nd, _⟩ => by
      subst e
      cases e2
      exact .inr ⟨p, xs, rfl, ne, o.elim (fun z => .inl (k _ _ nd z)) (fun z => .inr (k _ _ nd z)), l, r⟩
  | n + 1, v, h, g => h.elim .inl fun ⟨p, xs, e, ne, o, l, r⟩ => g.elim .inl fun ⟨q, ys, e2, nd, o2, _, r2⟩ => by
      subst e
      cases e2
      have := same_row o o2
      subst this
      exact .inr ⟨p, xs, rfl, ne, o.elim (fun z => .inl (k _ _ nd z)) (fun z => .inr (k _ _ nd z)), l, fun x m => Deep.put k (r x m) (r2 x m)⟩
theorem deep_ref {D p : Addr} {H : Hp} {n : Nat} {xs : List V} (g : Deep D n H (.ref p)) (o : H p = some (.lst xs) ∨ H p = some (.tup xs)) : p ≠ D ∧ ∀ m, n = m + 1 → ∀ x ∈ xs, Deep D m H x := by
  cases n with
  | zero =>
    rcases g with ⟨pl, _⟩ | ⟨q, ys, e, ne, _⟩
    · cases pl
    · cases e
      exact ⟨ne, fun m e => by cases e⟩
  | succ n =>
    rcases g with ⟨pl, _⟩ | ⟨q, ys, e, ne, o2, _, r⟩
    · cases pl
    · cases e
      have := same_row o o2
      subst this
      exact ⟨ne, fun m e => by cases e; exact r⟩
theorem SameD.put [Tabl] {D : Addr} {H H' : Hp} (k : But D H H') : ∀ {n : Nat} {x y : V}, SameD n H x y → Deep D n H x → Deep D n H y → SameD n H' x y
  | 0, x, y, h, gx, gy => h.elim .inl fun ⟨p, q, xs, ys, e1, e2, o, l, m, r⟩ => by
      subst e1
      subst e2
      have d1 := (deep_ref gx (o.elim (fun z => .inr z.1) fun z => .inl z.1)).1
      have d2 := (deep_ref gy (o.elim (fun z => .inr z.2) fun z => .inl z.2)).1
      exact .inr ⟨p, q, xs, ys, rfl, rfl, o.elim (fun z => .inl ⟨k _ _ d1 z.1, k _ _ d2 z.2⟩) (fun z => .inr ⟨k _ _ d1 z.1, k _ _ d2 z.2⟩), l, m, fun i a b ea eb => (r i a b ea eb).elim⟩
  | n + 1, x, y, h, gx, gy => h.elim .inl fun ⟨p, q, xs, ys, e1, e2, o, l, m, r⟩ => by
      subst e1
      subst e2
      have d1 := deep_ref gx (o.elim (fun z => .inr z.1) fun z => .inl z.1)
      have d2 := deep_ref gy (o.elim (fun z => .inr z.2) fun z => .inl z.2)
      exact .inr ⟨p, q, xs, ys, rfl, rfl, o.elim (fun z => .inl ⟨k _ _ d1.1 z.1, k _ _ d2.1 z.2⟩) (fun z => .inr ⟨k _ _ d1.1 z.1, k _ _ d2.1 z.2⟩), l, m, fun i a b ea eb => SameD.put k (r i a b ea eb) (d1.2 n rfl a (List.mem_of_getElem? ea)) (d2.2 n rfl b (List.mem_of_getElem? eb))⟩
theorem Same.some [Tabl] {H H' : Hp} (s : Same H H') {b : Addr} (h : H b ≠ none) : H' b ≠ none := fun e => h (s.free e)
/-- x == s, x any plain value, s a text -/
def rEqStr : R2 := fun x y H Q => ∃ z : Str, y = .str z ∧ Shal H x ∧ Q (.bl (decide (x = .str z))) H
def NameS (x : Str) : Prop := 1 ≤ x.length ∧ x.length ≤ 12 ∧ (∀ c, (cs x)[0]? = some c → c ∈ cs abc) ∧ ∀ c ∈ cs x, c ∈ cs abc ∨ c ∈ cs (Str.ofString "0123456789")
def NameV (v : V) : Prop := ∃ x, v = .str x ∧ NameS x
/-! like values, yes or no -/
def DeepE (dp : Hp → V → Prop) (H : Hp) (v : V) : Prop := (plainV v = true ∧ ∀ x : Str, v = .str x → x.length ≤ 4000000) ∨ ∃ (p : Addr) (xs : List V), v = .ref p ∧ (H p = some (.lst xs) ∨ H p = some (.tup xs)) ∧ xs.length ≤ 4000000 ∧ ∀ x ∈ xs, dp H x
def DeepN : Nat → Hp → V → Prop
  | 0 => DeepE fun _ _ => False
  | n + 1 => DeepE (DeepN n)
theorem Deep.toN {a : Addr} {H : Hp} : ∀ {n : Nat} {v : V}, Deep a n H v → DeepN n H v
  | 0, v, h => h.elim (fun q => .inl ⟨q.1, q.2.1⟩) fun ⟨p, xs, e, _, o, l, r⟩ => .inr ⟨p, xs, e, o, l, r⟩
  | n + 1, v, h => h.elim (fun q => .inl ⟨q.1, q.2.1⟩) fun ⟨p, xs, e, _, o, l, r⟩ => .inr ⟨p, xs, e, o, l, fun x m => Deep.toN (r x m)⟩
theorem DeepE.shal {dp : Hp → V → Prop} {H : Hp} {v : V} (h : DeepE dp H v) : Shal H v := by
  rcases h with ⟨pl, tx⟩ | ⟨p, xs, e, o, _⟩
  · cases v with
    | non => exact .inr (.inl rfl)
    | bl b => exact .inr (.inr (.inl ⟨b, rfl⟩))
    | int i => exact .inr (.inr (.inr (.inl ⟨i, rfl⟩)))
    | str x => exact .inl ⟨x, rfl, tx x rfl⟩
    | _ => cases pl
  · exact .inr (.inr (.inr (.inr ⟨p, xs, e, o⟩)))
/-- isinstance(v, tuple), isinstance(v, list) -/
theorem isi_tup {K : PySem.W.Frag} {H : Hp} {v : V} (h : Shal H v) : ∃ (t : Value) (b : Bool), TyX K H v t ∧ PySem.W.kitOne K t (.type "tuple") = some b ∧ (b = true ↔ ∃ p xs, v = .ref p ∧ H p = some (.tup xs)) := by
  rcases h with ⟨x, rfl, _⟩ | rfl | ⟨b, rfl⟩ | ⟨i, rfl⟩ | ⟨p, xs, rfl, h | h⟩
  · exact ⟨_, false, .base (.str x), kit_ty (by decide +kernel), ⟨fun e => (by cases e), fun ⟨p, xs, e, _⟩ => (by cases e)⟩⟩
  · exact ⟨_, false, .base .non, kit_ty (by decide +kernel), ⟨fun e => (by cases e), fun ⟨p, xs, e, _⟩ => (by cases e)⟩⟩
  · exact ⟨_, false, .base (.bl b), kit_ty (by decide +kernel), ⟨fun e => (by cases e), fun ⟨p, xs, e, _⟩ => (by cases e)⟩⟩
  · exact ⟨_, false, .base (.int i), kit_ty (by decide +kernel), ⟨fun e => (by cases e), fun ⟨p, xs, e, _⟩ => (by cases e)⟩⟩
  · exact ⟨_, false, .base (.lst h), kit_ty (by decide +kernel), ⟨fun e => (by cases e), fun ⟨p, xs, e, k⟩ => (by cases e; rw [h] at k; cases k)⟩⟩
  · exact ⟨_, true, .base (.tup h), kit_ty (by decide +kernel), ⟨fun _ => ⟨p, xs, rfl, h⟩, fun _ => rfl⟩⟩
theorem isi_lst {K : PySem.W.Frag} {H : Hp} {v : V} (h : Shal H v) : ∃ (t : Value) (b : Bool), TyX K H v t ∧ PySem.W.kitOne K t (.type "list") = some b ∧ (b = true ↔ ∃ p xs, v = .ref p ∧ H p = some (.lst xs)) := by
  rcases h with ⟨x, rfl, _⟩ | rfl | ⟨b, rfl⟩ | ⟨i, rfl⟩ | ⟨p, xs, rfl, h | h⟩
  · exact ⟨_, false, .base (.str x), kit_ty (by decide +kernel), ⟨fun e => (by cases e), fun ⟨p, xs, e, _⟩ => (by cases e)⟩⟩
  · exact ⟨_, false, .base .non, kit_ty (by decide +kernel), ⟨fun e => (by cases e), fun ⟨p, xs, e, _⟩ => (by cases e)⟩⟩
  · exact ⟨_, false, .base (.bl b), kit_ty (by decide +kernel), ⟨fun e => (by cases e), fun ⟨p, xs, e, _⟩ => (by cases e)⟩⟩
  · exact ⟨_, false, .base (.int i), kit_ty (by decide +kernel), ⟨fun e => (by cases e), fun ⟨p, xs, e, _⟩ => (by cases e)⟩⟩
  · exact ⟨_, true, .base (.lst h), kit_ty (by decide +kernel), ⟨fun _ => ⟨p, xs, rfl, h⟩, fun _ => rfl⟩⟩
  · exact ⟨_, false, .base (.tup h), kit_ty (by decide +kernel), ⟨fun e => (by cases e), fun ⟨p, xs, e, k⟩ => (by cases e; rw [h] at k; cases k)⟩⟩
/-- an atom is like itself alone -/
theorem same_atom {rel : Hp → V → V → Prop} {H : Hp} {x y : V} (h : plainV y = true) : SameR rel H x y ↔ x = y := by
  constructor
  · rintro (⟨e, _⟩ | ⟨p, q, xs, ys, e1, e2, _⟩)
    · exact e
    · rw [e2] at h
      cases h
  · exact fun e => .inl ⟨e, h⟩
/-! what an expression does first, told apart from what is done with its value -/
/-! two for in a comprehension -/
theorem DeepN.same [Tabl] {H H' : Hp} (s : Same H H') : ∀ {n : Nat} {v : V}, DeepN n H v → DeepN n H' v
  | 0, v, h => h.elim .inl fun ⟨p, xs, e, o, l, r⟩ => .inr ⟨p, xs, e, o.elim (fun z => .inl (s _ _ z)) (fun z => .inr (s _ _ z)), l, fun x m => (r x m).elim⟩
  | n + 1, v, h => h.elim .inl fun ⟨p, xs, e, o, l, r⟩ => .inr ⟨p, xs, e, o.elim (fun z => .inl (s _ _ z)) (fun z => .inr (s _ _ z)), l, fun x m => DeepN.same s (r x m)⟩
/-- a told pair zs, and the pair at d: like ones -/
def PairZ (d : V) (zs : List V) (Hx : Hp) : Prop := ∃ (pd : Addr) (nm : Str) (u w : V), d = .ref pd ∧ Hx pd = some (.tup [.str nm, w]) ∧ zs = [.str nm, u] ∧ SameD 8 Hx u w ∧ DeepN 8 Hx u ∧ DeepN 8 Hx w ∧ nm.length ≤ 4000000
theorem PairZ.same [Tabl] {d : V} {zs : List V} {H H' : Hp} (h : PairZ d zs H) (s : Same H H') : PairZ d zs H' := by
  obtain ⟨pd, nm, u, w, e, hp, ez, sm, du, dw, l⟩ := h
  exact ⟨pd, nm, u, w, e, s _ _ hp, ez, sm.keep s, du.same s, dw.same s, l⟩
theorem PairZ.fit {d : V} {zs : List V} {H : Hp} {t : Addr} (h : PairZ d zs H) (ht : H t = some (.tup zs)) : SameD 9 H (.ref t) d ∧ DeepN 9 H (.ref t) ∧ DeepN 9 H d := by
  obtain ⟨pd, nm, u, w, rfl, hp, rfl, sm, du, dw, l⟩ := h
  have row : ∀ {q : V}, DeepN 8 H q → ∀ y ∈ [V.str nm, q], DeepN 8 H y := fun dq y m => by
    rcases List.mem_cons.mp m with m | m
    · subst m
      exact .inl ⟨rfl, fun z e => by cases e; exact l⟩
    · rw [List.mem_singleton.mp m]
      exact dq
  refine ⟨.inr ⟨t, pd, _, _, rfl, rfl, .inl ⟨ht, hp⟩, rfl, by show 2 ≤ 4000000; decide, fun i x y ex ey => ?_⟩, .inr ⟨t, _, rfl, .inr ht, by show 2 ≤ 4000000; decide, row du⟩, .inr ⟨pd, _, rfl, .inr hp, by show 2 ≤ 4000000; decide, row dw⟩⟩
  match i, ex, ey with
  | 0, ex, ey =>
    cases ex
    cases ey
    exact .inl ⟨rfl, rfl⟩
  | 1, ex, ey =>
    cases ex
    cases ey
    exact sm
theorem SameD.symm {H : Hp} : ∀ {n : Nat} {x y : V}, SameD n H x y → SameD n H y x
  | 0, x, y, h => h.elim (fun q => .inl ⟨q.1.symm, by rw [q.1]; exact q.2⟩) fun ⟨p, q, xs, ys, e1, e2, o, l, m, r⟩ => .inr ⟨q, p, ys, xs, e2, e1, o.elim (fun z => .inl ⟨z.2, z.1⟩) (fun z => .inr ⟨z.2, z.1⟩), l.symm, by omega, fun i a b ea eb => (r i b a eb ea).elim⟩
  | n + 1, x, y, h => h.elim (fun q => .inl ⟨q.1.symm, by rw [q.1]; exact q.2⟩) fun ⟨p, q, xs, ys, e1, e2, o, l, m, r⟩ => .inr ⟨q, p, ys, xs, e2, e1, o.elim (fun z => .inl ⟨z.2, z.1⟩) (fun z => .inr ⟨z.2, z.1⟩), l.symm, by omega, fun i a b ea eb => SameD.symm (r i b a eb ea)⟩
end Lb

namespace GQ
open PySem PySem.Spec PyProof.Rows L2 Lb
variable [Tabl] {X : Cx}
def tAllG2 (z u : Str) (te : TE) : TE := fun σ H Q => te σ H fun v H1 => ∃ a : Str, v = .str a ∧ Lb.Good H1 ∧ ∀ H2, Lb.Same H1 H2 → Q (.bl (a.cps.toList.all fun c => decide (c ∈ z.cps.toList) || decide (c ∈ u.cps.toList))) H2
def CnGl2 (z u : Str) : L2.St → Hp → (Nat → Bool) → Prop := fun _ _ pb => pb = fun c => decide (c ∈ z.cps.toList) || decide (c ∈ u.cps.toList)
end GQ

namespace RvS
open PySem PySem.Spec PyProof.Rows L2 RT
/-! ### reversed(x), x a text -/
/-- reversed(x), the next place i -/
def IsRs (h : Heap) (a : Addr) (x : Str) (t : Tok) (i : Int) : Prop := ∃ o, h.get? a = some o ∧ o.cls = .type "reversed" ∧ o.data = .fields #[.str x t, rawInt i]
theorem IsRs.at {h h' : Heap} {a : Addr} {x : Str} {t : Tok} {i : Int} (q : IsRs h a x t i) (e : ∀ o, h.get? a = some o → h'.get? a = some o) : IsRs h' a x t i := let ⟨o, ho, r⟩ := q; ⟨o, e _ ho, r⟩
section
variable {prog : Program} {w : World} {A : Around} {E : Value → Shared → Prop} {s : Shared}
/-- the object that goes back over x -/
def rsObj (x : Str) (t : Tok) (i : Int) : Obj := { cls := .type "reversed", data := .fields #[.str x t, rawInt i] }
end
/-- the signs of x, the last first -/
def Irs (x : Str) : It := ⟨fun i _ => i < x.cps.size, fun i H v H' => H' = H ∧ ∃ c, x.cps[x.cps.size - 1 - i]? = some c ∧ v = .str ⟨#[c]⟩, fun i _ => x.cps.size ≤ i⟩
/-- reversed(x), x a text -/
def iRevS (te : TE) : TI := fun σ H R => te σ H fun v H1 => ∃ x : Str, v = .str x ∧ x.length ≤ sizeLine ∧ R (Irs x) H1
end RvS
namespace EnT
open PySem PySem.Spec PyProof.Rows L2
/-! ### enumerate of a text -/
/-- the text x, each sign in a new pair -/
def IteX (x : Str) : It :=
  ⟨fun i _ => i < x.cps.size, fun i H v H' => ∃ T c, v = .ref T ∧ H T = none ∧ H' = upd H T (.tup [.int (i : Nat), .str ⟨#[c]⟩]) ∧ x.cps[i]? = some c, fun i _ => i = x.cps.size⟩
def iEnumX (ta : TA) : TI := fun σ H R => ta σ H fun vs H1 => ∃ x : Str, vs = [.str x] ∧ R (IteX x) H1
end EnT

namespace Lb
open PySem PySem.Spec PyProof.Rows L2
/-! ### lists of texts -/
open SetQ
theorem erase_map {α β : Type} (f : α → β) : ∀ (l : List α) (i : Nat), (l.map f).eraseIdx i = (l.eraseIdx i).map f
  | [], _ => rfl
  | x :: l, 0 => rfl
  | x :: l, i + 1 => by
    show f x :: (l.map f).eraseIdx i = _
    rw [erase_map f l i]
    rfl
theorem erase_perm {α : Type} : ∀ (l : List α) (i : Nat) (h : i < l.length), (l[i] :: l.eraseIdx i).Perm l
  | x :: l, 0, _ => .refl _
  | x :: l, i + 1, h => (List.Perm.swap x _ _).trans ((erase_perm l i (Nat.lt_of_succ_lt_succ h)).cons x)
theorem pick_all {α : Type} (xs : List α) : ((List.range xs.length).filterMap fun j => xs[j]?) = xs := by
  induction xs with
  | nil => rfl
  | cons x xs ih =>
    rw [List.length_cons, List.range_succ_eq_map, List.filterMap_cons]
    show x :: ((List.range xs.length).map Nat.succ).filterMap (fun j => (x :: xs)[j]?) = x :: xs
    rw [List.filterMap_map]
    exact congrArg (List.cons x) ih
theorem atI_neg1 {α : Type} {xs : List α} {v : α} (h : xs[xs.length - 1]? = some v) : atI xs (-1) = some v := by
  have ne : xs ≠ [] := fun e => by rw [e] at h; cases h
  have e := List.dropLast_concat_getLast ne
  have l : xs.getLast ne = v := by
    rw [List.getLast_eq_getElem]
    exact Option.some.inj ((List.getElem?_eq_getElem _).symm.trans h)
  rw [← e, l]
  exact atI_last _ _
def strOf : V → Str
  | .str x => x
  | _ => ⟨#[]⟩
end Lb

namespace Lb
open PySem PySem.Spec PyProof.Rows L2
/-! ### entries of machines -/
/-- the items of a tuple are plain, if v is one -/
def Inner (H : Hp) (v : V) : Prop := ∀ t xs, v = .ref t → H t = some (.tup xs) → ∀ y ∈ xs, Shal H y
theorem Inner.same [Tabl] {H H' : Hp} {v : V} (sh : Shal H v) (h : Inner H v) (s : Same H H') : Inner H' v := by
  intro t xs e ht y hy
  subst e
  rcases sh with ⟨x, e, _⟩ | e | ⟨b, e⟩ | ⟨i, e⟩ | ⟨p, ys, e, o⟩
  · cases e
  · cases e
  · cases e
  · cases e
  · cases e
    rcases o with o | o
    · rw [s _ _ o] at ht
      cases ht
    · rw [s _ _ o] at ht
      cases ht
      exact (h t xs rfl o y hy).same s
/-- v is a pair of a state and a word, an arc -/
def PairV (H : Hp) (z : Str) (n : Int) (v : V) : Prop := ∃ t i x, v = .ref t ∧ H t = some (.tup [.int i, .str x]) ∧ 0 ≤ i ∧ i ≤ n - 1 ∧ Over z x ∧ (x.length : Int) ≤ 400
def ArcV (H : Hp) (r z : Str) (n : Int) (v : V) : Prop := ∃ t i l x j, v = .ref t ∧ H t = some (.tup [.int i, .str l, .str x, .int j]) ∧ 0 ≤ i ∧ i ≤ n - 1 ∧ l.length = 1 ∧ Over r l ∧ Over z x ∧ (x.length : Int) ≤ 400 ∧ 0 ≤ j ∧ j ≤ n - 1
theorem sign_of {x : Str} (h : x.length = 1) : ∃ c, x = (⟨#[c]⟩ : Str) := ⟨_, one_sign h⟩
theorem any_1st {t : Value} {a b : Value} {K : PySem.W.Frag} (h : PySem.W.kitOne K t a = some true) : PySem.W.kitAny K t [a, b] = some true :=
  kitAny_cons h (fun z => by cases z) (fun _ => rfl)
/-! ### rows of entries -/
/-- the values of xs are tuples that hold the entries es -/
def EntL {α : Type} (img : α → List V) (H : Hp) (xs : List V) (es : List α) : Prop := Paired (fun v e => ∃ t, v = .ref t ∧ H t = some (.tup (img e))) xs es
theorem EntL.same [Tabl] {α : Type} {img : α → List V} {H H' : Hp} {xs : List V} {es : List α} (h : EntL img H xs es) (s : Same H H') : EntL img H' xs es := Paired.mapP h fun _ _ ⟨t, e, q⟩ => ⟨t, e, s _ _ q⟩
theorem EntL.len {α : Type} {img : α → List V} {H : Hp} {xs : List V} {es : List α} (h : EntL img H xs es) : xs.length = es.length := h.length
theorem paired_get {α β : Type} {F : α → β → Prop} {xs : List α} {es : List β} (h : Paired F xs es) : ∀ {i : Nat} {x : α}, xs[i]? = some x → ∃ e, es[i]? = some e ∧ F x e := by
  induction h with
  | nil => intro i x e; cases e
  | cons f _ ih =>
    intro i x e
    cases i with
    | zero => cases e; exact ⟨_, rfl, f⟩
    | succ i => exact ih e
theorem paired_get2 {α β : Type} {F : α → β → Prop} {xs : List α} {es : List β} (h : Paired F xs es) : ∀ {i : Nat} {e : β}, es[i]? = some e → ∃ x, xs[i]? = some x ∧ F x e := by
  induction h with
  | nil => intro i x e; cases e
  | cons f _ ih =>
    intro i x e
    cases i with
    | zero => cases e; exact ⟨_, rfl, f⟩
    | succ i => exact ih e
theorem EntL.get {α : Type} {img : α → List V} {H : Hp} {xs : List V} {es : List α} (h : EntL img H xs es) {i : Nat} {x : V} (hx : xs[i]? = some x) : ∃ e t, es[i]? = some e ∧ x = .ref t ∧ H t = some (.tup (img e)) := by
  obtain ⟨e, he, t, et, ht⟩ := paired_get h hx
  exact ⟨e, t, he, et, ht⟩
theorem EntL.of {α : Type} {img : α → List V} {H : Hp} : ∀ {xs : List V} {es : List α}, xs.length = es.length → (∀ (i : Nat) (x : V) (e : α), xs[i]? = some x → es[i]? = some e → ∃ t, x = .ref t ∧ H t = some (.tup (img e))) → EntL img H xs es
  | [], [], _, _ => .nil
  | x :: xs, e :: es, l, h => .cons (h 0 x e rfl rfl) (EntL.of (by simpa using l) fun i y f a b => h (i + 1) y f a b)
  | [], _ :: _, l, _ => by cases l
  | _ :: _, [], l, _ => by cases l
/-- each once, in the order of their first places -/
def addNew {α : Type} [DecidableEq α] (ds : List α) (e : α) : List α := if e ∈ ds then ds else ds ++ [e]
def onces {α : Type} [DecidableEq α] (es : List α) : List α := es.foldl addNew []
/-- the dict whose keys are the entries ds -/
def onesD {α : Type} (pk : α → List L2.Key) (ds : List α) : List (List L2.Key × V) := ds.map fun e => (pk e, V.bl true)
theorem EntL.perm {α : Type} {img : α → List V} {dec : V → α} {H : Hp} {xs ys : List V} {es : List α} (h : EntL img H xs es) (hd : ∀ t e, H t = some (.tup (img e)) → dec (.ref t) = e) (p : ys.Perm xs) : es = xs.map dec ∧ EntL img H ys (ys.map dec) := by
  have e1 : es = xs.map dec := by
    refine List.ext_getElem? fun i => ?_
    rw [List.getElem?_map]
    cases hx : xs[i]? with
    | none =>
      show es[i]? = none
      rw [List.getElem?_eq_none_iff, ← h.len]
      exact List.getElem?_eq_none_iff.mp hx
    | some x =>
      obtain ⟨e, t, he, rfl, ht⟩ := h.get hx
      rw [he]
      exact congrArg some (hd t e ht).symm
  refine ⟨e1, EntL.of (by rw [List.length_map]) fun i y e hy he => ?_⟩
  rw [List.getElem?_map, hy] at he
  cases he
  obtain ⟨j, hj⟩ := List.getElem?_of_mem (p.mem_iff.mp (List.mem_of_getElem? hy))
  obtain ⟨e, t, _, rfl, ht⟩ := h.get hj
  exact ⟨t, rfl, by rw [hd t e ht]; exact ht⟩
/-- pairs -/
def pimg (e : Int × Str) : List V := [.int e.1, .str e.2]
def ppk (e : Int × Str) : List L2.Key := [.inl e.1, .inr e.2]
def pdec (H : Hp) : V → Int × Str
  | .ref t => match H t with
    | some (.tup [.int i, .str x]) => (i, x)
    | _ => (0, Str.empty)
  | _ => (0, Str.empty)
theorem pdec_at {H : Hp} (t : Addr) (e : Int × Str) (h : H t = some (.tup (pimg e))) : pdec H (.ref t) = e := by
  show (match H t with | some (.tup [.int i, .str x]) => (i, x) | _ => (0, Str.empty)) = e
  rw [h]
  rfl
def relP (H : Hp) (v : V) (d : PyData) : Prop := ∃ (t : Addr) (i : Int) (x : Str), v = .ref t ∧ H t = some (.tup [.int i, .str x]) ∧ x.length ≤ 4000000 ∧ d = EnS.pkey i x
/-- arcs -/
def aimg (e : EnS.Arc) : List V := [.int e.1, .str e.2.1, .str e.2.2.1, .int e.2.2.2]
def apk (e : EnS.Arc) : List L2.Key := [.inl e.1, .inr e.2.1, .inr e.2.2.1, .inl e.2.2.2]
def adec (H : Hp) : V → EnS.Arc
  | .ref t => match H t with
    | some (.tup [.int i, .str l, .str x, .int j]) => (i, l, x, j)
    | _ => (0, Str.empty, Str.empty, 0)
  | _ => (0, Str.empty, Str.empty, 0)
theorem adec_at {H : Hp} (t : Addr) (e : EnS.Arc) (h : H t = some (.tup (aimg e))) : adec H (.ref t) = e := by
  show (match H t with | some (.tup [.int i, .str l, .str x, .int j]) => (i, l, x, j) | _ => (0, Str.empty, Str.empty, 0)) = e
  rw [h]
  rfl
def akeyE (e : EnS.Arc) : PyData := EnS.akey e.1 e.2.1 e.2.2.1 e.2.2.2
def relA (H : Hp) (v : V) (d : PyData) : Prop := ∃ (t : Addr) (i : Int) (l x : Str) (j : Int), v = .ref t ∧ H t = some (.tup [.int i, .str l, .str x, .int j]) ∧ x.length ≤ 4000000 ∧ d = EnS.akey i l x j
/-- the machine at m -/
def GoodP (z : Str) (n : Int) (e : Int × Str) : Prop := 0 ≤ e.1 ∧ e.1 ≤ n - 1 ∧ Over z e.2 ∧ (e.2.length : Int) ≤ 400
def GoodA (r z : Str) (n : Int) (e : EnS.Arc) : Prop := 0 ≤ e.1 ∧ e.1 ≤ n - 1 ∧ e.2.1.length = 1 ∧ Over r e.2.1 ∧ Over z e.2.2.1 ∧ (e.2.2.1.length : Int) ≤ 400 ∧ 0 ≤ e.2.2.2 ∧ e.2.2.2 ≤ n - 1
def mfs (r z : Str) (n : Int) (b a e : Addr) : List (Str × V) := putF "_ends" (.ref e) (putF "_arcs" (.ref a) (putF "_begins" (.ref b) (putF "_size" (.int n) (putF "_write" (.str z) (putF "_read" (.str r) [])))))
section
variable {r z : Str} {n : Int} {b a e : Addr}
theorem mfs_ends : (mfs r z n b a e).lookup ("_ends" : Str) = some (.ref e) := by
  unfold mfs
  rw [lookup_putF, if_pos rfl]
theorem mfs_arcs : (mfs r z n b a e).lookup ("_arcs" : Str) = some (.ref a) := by
  unfold mfs
  rw [lookup_putF, if_neg (by decide +kernel), lookup_putF, if_pos rfl]
theorem mfs_begins : (mfs r z n b a e).lookup ("_begins" : Str) = some (.ref b) := by
  unfold mfs
  rw [lookup_putF, if_neg (by decide +kernel), lookup_putF, if_neg (by decide +kernel), lookup_putF, if_pos rfl]
end
theorem lenF {f : Str} {v : V} {fs : List (Str × V)} {k : Nat} (h : fs.length ≤ k) : (putF f v fs).length ≤ k + 1 := Nat.le_trans (length_putF f v fs) (by omega)
theorem RowAt.but [Tabl] {K : PySem.W.Frag} {m : Addr} {H H' : Hp} {C dx : Addr} {fs : List (Str × V)} {p : Addr} {xs : List V} (k : But m H H') (hm : H m = some (.ins C dx fs)) (h : Own.RowAt K H p xs) : Own.RowAt K H' p xs :=
  h.imp (fun h => k _ _ (fun e => by rw [e, hm] at h; cases h) h) fun h => h.imp (fun h => k _ _ (fun e => by rw [e, hm] at h; cases h) h) id
theorem EntL.but [Tabl] {α : Type} {img : α → List V} {m : Addr} {H H' : Hp} {C dx : Addr} {fs : List (Str × V)} {xs : List V} {es : List α} (k : But m H H') (hm : H m = some (.ins C dx fs)) (h : EntL img H xs es) : EntL img H' xs es :=
  Paired.mapP h fun _ _ ⟨t, e, q⟩ => ⟨t, e, k _ _ (fun z => by rw [z, hm] at q; cases q) q⟩
/-- the list at l holds the entries es, each once, in order -/
def Told {α : Type} (img : α → List V) (lt : α → α → Prop) (H : Hp) (l : Addr) (es : List α) : Prop := ∃ (xs : List V) (ds : List α), H l = some (.lst xs) ∧ EntL img H xs ds ∧ ds.Pairwise lt ∧ (∀ e, e ∈ ds ↔ e ∈ es) ∧ ds.length ≤ es.length ∧ ds.length ≤ 400
def Mach (C : Addr) (H : Hp) (m : Addr) (r z : Str) (n : Int) (be : List (Int × Str)) (ae : List EnS.Arc) (ee : List (Int × Str)) : Prop := ∃ dx b a e, H m = some (.ins C dx (mfs r z n b a e)) ∧ Told pimg EnS.PLt H b be ∧ Told aimg EnS.ALt H a ae ∧ Told pimg EnS.PLt H e ee ∧ b ≠ a ∧ b ≠ e ∧ a ≠ e
theorem Told.but [Tabl] {α : Type} {img : α → List V} {lt : α → α → Prop} {m : Addr} {H H' : Hp} {C dx : Addr} {fs : List (Str × V)} {l : Addr} {es : List α} (k : But m H H') (hm : H m = some (.ins C dx fs)) (h : Told img lt H l es) : Told img lt H' l es := by
  obtain ⟨xs, ds, hl, en, r⟩ := h
  exact ⟨xs, ds, k _ _ (fun z => by rw [z, hm] at hl; cases hl) hl, en.but k hm, r⟩
/-- the lists that the machine at m holds are new since H -/
def Young (C : Addr) (H H' : Hp) (m : Addr) : Prop := ∀ dx r z n b a e, H' m = some (.ins C dx (mfs r z n b a e)) → H b = none ∧ H a = none ∧ H e = none
theorem Young.of {C : Addr} {H H' : Hp} {m dx : Addr} {r z : Str} {n : Int} {b a e : Addr} (h : H' m = some (.ins C dx (mfs r z n b a e))) (hb : H b = none) (ha : H a = none) (he : H e = none) : Young C H H' m := by
  intro dx' r' z' n' b' a' e' h'
  rw [h] at h'
  have q : mfs r z n b a e = mfs r' z' n' b' a' e' := by
    injection h' with h'
    injection h'
  have q1 := mfs_begins (r := r) (z := z) (n := n) (b := b) (a := a) (e := e)
  rw [q, mfs_begins] at q1
  have q2 := mfs_arcs (r := r) (z := z) (n := n) (b := b) (a := a) (e := e)
  rw [q, mfs_arcs] at q2
  have q3 := mfs_ends (r := r) (z := z) (n := n) (b := b) (a := a) (e := e)
  rw [q, mfs_ends] at q3
  cases q1
  cases q2
  cases q3
  exact ⟨hb, ha, he⟩
/-- x < y, alike data of any depth -/
def rLtD (K : PySem.W.Frag) : R2 := fun x y H Q => ∃ d e, Dp K H x d ∧ Dp K H y e ∧ PySem.W.alike d e = true ∧ d ≠ .none ∧ d.depth ≤ 16 ∧ Q (.bl (PySem.W.dataLt d e)) H
/-- a dict of flags by entries -/
def flagD {α : Type} (pk : α → List L2.Key) (f : α → Bool) (ds : List α) : List (List L2.Key × V) := ds.map fun e => (pk e, V.bl (f e))
end Lb

namespace Lb
open PySem PySem.Spec PyProof.Rows L2
/-! ### lists that are spoilt -/
/-- all but the lists at L stands -/
structure ButL [Tabl] (L : List Addr) (H H' : Hp) : Prop where
  old : ∀ b o, H b = some o → (∀ xs, o = .lst xs → b ∉ L) → NoT o → H' b = some o
  lst : ∀ b xs, H b = some (.lst xs) → ∃ ys, H' b = some (.lst ys)
  tab : ∀ b ps, H b = some (.tbl ps) → ∃ qs, H' b = some (.tbl qs)
  good : Good H → Good H'
section
variable [Tabl] {L : List Addr} {H H1 H' H2 : Hp}
theorem ButL.refl (H : Hp) : ButL L H H := ⟨fun _ _ h _ _ => h, fun _ xs h => ⟨xs, h⟩, fun _ ps h => ⟨ps, h⟩, id⟩
theorem ButL.trans (p : ButL L H H1) (q : ButL L H1 H2) : ButL L H H2 :=
  ⟨fun b o h n k => q.old b o (p.old b o h n k) n k, fun b xs h => let ⟨ys, e⟩ := p.lst b xs h; q.lst b ys e, fun b ps h => let ⟨qs, e⟩ := p.tab b ps h; q.tab b qs e, fun g => q.good (p.good g)⟩
theorem ButL.same (s : Same H H') : ButL L H H' := ⟨fun b o h _ k => s.old b o h k, fun b xs h => ⟨xs, s _ _ h⟩, s.tab, s.good⟩
theorem ButL.put {a : Addr} {xs ys : List V} (m : a ∈ L) (h : H a = some (.lst xs)) : ButL L H (upd H a (.lst ys)) := by
  have b := But.put (o := .lst ys) h
  refine ⟨fun b' o e n k => b.old b' o (fun z => ?_) e k, fun b' xs' e => ?_, b.tab, b.good⟩
  · subst z
    rw [h] at e
    cases e
    exact n _ rfl m
  · by_cases z : b' = a
    · subst z
      exact ⟨ys, upd_same⟩
    · exact ⟨xs', by rw [upd_ne z]; exact e⟩
theorem ButL.tup (k : ButL L H H') {b : Addr} {xs : List V} (h : H b = some (.tup xs)) : H' b = some (.tup xs) := k.old b _ h (fun _ z => by cases z) (fun _ z => by cases z)
theorem ButL.ins (k : ButL L H H') {b C dx : Addr} {fs : List (Str × V)} (h : H b = some (.ins C dx fs)) : H' b = some (.ins C dx fs) := k.old b _ h (fun _ z => by cases z) (fun _ z => by cases z)
theorem ButL.row (k : ButL L H H') {b : Addr} {xs : List V} (h : H b = some (.lst xs)) (n : b ∉ L) : H' b = some (.lst xs) := k.old b _ h (fun _ _ => n) (fun _ z => by cases z)
theorem ButL.free (k : ButL L H H') {p : Addr} (n : H' p = none) : H p = none := by
  cases e : H p with
  | none => rfl
  | some o =>
    by_cases t : ∃ ps, o = .tbl ps
    · obtain ⟨ps, rfl⟩ := t
      obtain ⟨qs, e'⟩ := k.tab _ _ e
      rw [e'] at n
      cases n
    · by_cases l : ∃ xs, o = .lst xs
      · obtain ⟨xs, rfl⟩ := l
        obtain ⟨ys, e'⟩ := k.lst _ _ e
        rw [e'] at n
        cases n
      · rw [k.old _ _ e (fun xs z => absurd ⟨xs, z⟩ l) (fun ps z => t ⟨ps, z⟩)] at n
        cases n
theorem ButL.held (k : ButL L H H') {b : Addr} (h : H b ≠ none) : H' b ≠ none := fun e => h (k.free e)
theorem ButL.back (k : ButL L H H') (h : ∀ b ∈ L, ∀ xs, H b = some (.lst xs) → H' b = some (.lst xs)) : Same H H' := by
  refine ⟨fun b o e t => ?_, k.tab, k.good⟩
  by_cases l : ∃ xs, o = .lst xs
  · obtain ⟨xs, rfl⟩ := l
    by_cases m : b ∈ L
    · exact h b m xs e
    · exact k.row e m
  · exact k.old _ _ e (fun xs z => absurd ⟨xs, z⟩ l) t
/-- lists made since -/
theorem ButL.young (s : Same H H1) (k : ButL L H1 H2) (n : ∀ b ∈ L, H b = none) : Same H H2 :=
  ⟨fun b o e t => k.old b o (s.old b o e t) (fun _ _ m => by rw [n b m] at e; cases e) t, fun b ps e => let ⟨qs, f⟩ := s.tab b ps e; k.tab b qs f, fun g => k.good (s.good g)⟩
theorem ButL.more {L' : List Addr} (k : ButL L H H') (h : ∀ b ∈ L, b ∈ L') : ButL L' H H' := ⟨fun b o e n t => k.old b o e (fun xs z m => n xs z (h b m)) t, k.lst, k.tab, k.good⟩
theorem EntL.butl {α : Type} {img : α → List V} {xs : List V} {es : List α} (h : EntL img H xs es) (k : ButL L H H') : EntL img H' xs es := Paired.mapP h fun _ _ ⟨t, e, q⟩ => ⟨t, e, k.tup q⟩
theorem Told.butl {α : Type} {img : α → List V} {lt : α → α → Prop} {l : Addr} {es : List α} (h : Told img lt H l es) (k : ButL L H H') (n : l ∉ L) : Told img lt H' l es := by
  obtain ⟨xs, ds, hl, en, r⟩ := h
  exact ⟨xs, ds, k.row hl n, en.butl k, r⟩
theorem Told.same {α : Type} {img : α → List V} {lt : α → α → Prop} {l : Addr} {es : List α} (h : Told img lt H l es) (k : Same H H') : Told img lt H' l es := by
  obtain ⟨xs, ds, hl, en, r⟩ := h
  exact ⟨xs, ds, k _ _ hl, en.same k, r⟩
theorem Mach.same {C m : Addr} {r z : Str} {n : Int} {be : List (Int × Str)} {ae : List EnS.Arc} {ee : List (Int × Str)} (h : Mach C H m r z n be ae ee) (s : Same H H') : Mach C H' m r z n be ae ee := by
  obtain ⟨dx, b, a, e, hm, tb, ta, te, r⟩ := h
  exact ⟨dx, b, a, e, s _ _ hm, tb.same s, ta.same s, te.same s, r⟩
theorem Mach.butl {C m : Addr} {r z : Str} {n : Int} {be : List (Int × Str)} {ae : List EnS.Arc} {ee : List (Int × Str)} {G : Hp} (h : Mach C H m r z n be ae ee) (y : Young C G H m) (k : ButL L H H') (o : ∀ b ∈ L, G b ≠ none) : Mach C H' m r z n be ae ee := by
  obtain ⟨dx, b, a, e, hm, tb, ta, te, r⟩ := h
  obtain ⟨y1, y2, y3⟩ := y _ _ _ _ _ _ _ hm
  exact ⟨dx, b, a, e, k.ins hm, tb.butl k fun m => o _ m y1, ta.butl k fun m => o _ m y2, te.butl k fun m => o _ m y3, r⟩
end
/-- L: the lists in a plain value, from within -/
def ListsR (rel : Hp → V → List Addr → Prop) (H : Hp) (v : V) (L : List Addr) : Prop := (plainV v = true ∧ L = []) ∨ ∃ (p : Addr) (xs : List V) (Ls : List (List Addr)), v = .ref p ∧ xs.length ≤ 4000000 ∧ Ls.length = xs.length ∧
  (∀ (i : Nat) (x : V) (l : List Addr), xs[i]? = some x → Ls[i]? = some l → rel H x l) ∧ ((H p = some (.lst xs) ∧ L = Ls.flatten ++ [p]) ∨ (H p = some (.tup xs) ∧ L = Ls.flatten))
def ListsD : Nat → Hp → V → List Addr → Prop
  | 0 => ListsR fun _ _ _ => False
  | n + 1 => ListsR (ListsD n)
theorem ListsD.keep [Tabl] {H H' : Hp} (s : Same H H') : ∀ {n : Nat} {v : V} {L : List Addr}, ListsD n H v L → ListsD n H' v L
  | 0, v, L, h => h.elim .inl fun ⟨p, xs, Ls, e, l, ll, r, o⟩ => .inr ⟨p, xs, Ls, e, l, ll, fun i x l a b => (r i x l a b).elim, o.elim (fun z => .inl ⟨s _ _ z.1, z.2⟩) fun z => .inr ⟨s _ _ z.1, z.2⟩⟩
  | n + 1, v, L, h => h.elim .inl fun ⟨p, xs, Ls, e, l, ll, r, o⟩ => .inr ⟨p, xs, Ls, e, l, ll, fun i x l a b => ListsD.keep s (r i x l a b), o.elim (fun z => .inl ⟨s _ _ z.1, z.2⟩) fun z => .inr ⟨s _ _ z.1, z.2⟩⟩
/-- each of them is a list -/
theorem ListsD.lst {H : Hp} : ∀ {n : Nat} {v : V} {L : List Addr}, ListsD n H v L → ∀ a ∈ L, ∃ xs, H a = some (.lst xs) ∧ xs.length ≤ 4000000 := by
  have key : ∀ (rel : Hp → V → List Addr → Prop), (∀ x l, rel H x l → ∀ a ∈ l, ∃ xs, H a = some (.lst xs) ∧ xs.length ≤ 4000000) → ∀ v L, ListsR rel H v L → ∀ a ∈ L, ∃ xs, H a = some (.lst xs) ∧ xs.length ≤ 4000000 := by
    rintro rel ih v L (⟨_, rfl⟩ | ⟨p, xs, Ls, _, lx, ll, r, o⟩) a m
    · cases m
    · have fl : a ∈ Ls.flatten → ∃ xs, H a = some (.lst xs) ∧ xs.length ≤ 4000000 := fun m => by
        obtain ⟨l, ml, ma⟩ := List.mem_flatten.mp m
        obtain ⟨i, hi, e⟩ := List.mem_iff_getElem.mp ml
        have h1 : Ls[i]? = some l := by rw [List.getElem?_eq_getElem hi, e]
        exact ih _ _ (r i _ l (List.getElem?_eq_getElem (by omega)) h1) a ma
      rcases o with ⟨o, rfl⟩ | ⟨o, rfl⟩
      · rcases List.mem_append.mp m with m | m
        · exact fl m
        · rw [List.mem_singleton.mp m]
          exact ⟨xs, o, lx⟩
      · exact fl m
  intro n
  induction n with
  | zero => exact fun {v L} => key _ (fun _ _ h => h.elim) v L
  | succ n ih => exact fun {v L} => key _ (fun _ _ h => ih h) v L
theorem pw_unique {α : Type} {lt : α → α → Prop} (asym : ∀ a b, lt a b → lt b a → False) : ∀ {us ws : List α}, us.Pairwise lt → ws.Pairwise lt → (∀ y, y ∈ us ↔ y ∈ ws) → us = ws
  | [], [], _, _, _ => rfl
  | [], w :: ws, _, _, h => by cases (h w).mpr List.mem_cons_self
  | u :: us, [], _, _, h => by cases (h u).mp List.mem_cons_self
  | u :: us, w :: ws, p, q, h => by
    obtain ⟨p1, p2⟩ := List.pairwise_cons.mp p
    obtain ⟨q1, q2⟩ := List.pairwise_cons.mp q
    have e : u = w := by
      rcases List.mem_cons.mp ((h u).mp List.mem_cons_self) with e | m
      · exact e
      · rcases List.mem_cons.mp ((h w).mpr List.mem_cons_self) with e | m2
        · exact e.symm
        · exact (asym _ _ (p1 _ m2) (q1 _ m)).elim
    subst e
    rw [pw_unique asym p2 q2 fun y => ⟨fun m => ?_, fun m => ?_⟩]
    · rcases List.mem_cons.mp ((h y).mp (List.mem_cons_of_mem _ m)) with e | m2
      · subst e
        exact (asym _ _ (p1 _ m) (p1 _ m)).elim
      · exact m2
    · rcases List.mem_cons.mp ((h y).mpr (List.mem_cons_of_mem _ m)) with e | m2
      · subst e
        exact (asym _ _ (q1 _ m) (q1 _ m)).elim
      · exact m2
/-- entries as keys: pairs or arcs in strict order -/
def kimg (e : List L2.Key) : List V := e.map kV
def Shape (ds : List (List L2.Key)) : Prop := (∃ ps : List (Int × Str), ds = ps.map ppk ∧ ps.Pairwise EnS.PLt ∧ ∀ e ∈ ps, e.2.length ≤ 4000000) ∨ ∃ as : List EnS.Arc, ds = as.map apk ∧ as.Pairwise EnS.ALt ∧ ∀ e ∈ as, e.2.1.length ≤ 4000000 ∧ e.2.2.1.length ≤ 4000000
theorem EntL.keys {α : Type} {img : α → List V} (pk : α → List L2.Key) (hp : ∀ e, (pk e).map kV = img e) {H : Hp} : ∀ {xs : List V} {es : List α}, EntL img H xs es → EntL kimg H xs (es.map pk)
  | _, _, .nil => .nil
  | _, _, .cons ⟨t, e, q⟩ r => .cons ⟨t, e, by rw [show kimg (pk _) = _ from hp _]; exact q⟩ (EntL.keys pk hp r)
/-- a told list, by keys -/
structure KeysOf (H : Hp) (l : Addr) (es : List (List L2.Key)) (rs : List V) (ds : List (List L2.Key)) : Prop where
  row : H l = some (.lst rs)
  ent : EntL kimg H rs ds
  nd : ds.Nodup
  mem : ∀ e, e ∈ ds ↔ e ∈ es
  len : ds.length ≤ 1000
  shape : Shape ds
theorem mem_map_inj {α β : Type} {f : α → β} {xs ys : List α} (h : ∀ e, e ∈ xs ↔ e ∈ ys) : ∀ e, e ∈ xs.map f ↔ e ∈ ys.map f := fun e => by
  rw [List.mem_map, List.mem_map]
  exact ⟨fun ⟨a, m, q⟩ => ⟨a, (h a).mp m, q⟩, fun ⟨a, m, q⟩ => ⟨a, (h a).mpr m, q⟩⟩
/-- entries of plain values -/
def ImgOk {α : Type} (img : α → List V) : Prop := ∀ e, (img e).length ≤ 4 ∧ ∀ v ∈ img e, plainV v = true
theorem pimg_ok : ImgOk pimg := fun e => ⟨by show 2 ≤ 4; decide, fun v m => by
  rcases List.mem_cons.mp m with h | m
  · rw [h]; rfl
  · rw [List.mem_singleton.mp m]; rfl⟩
theorem aimg_ok : ImgOk aimg := fun e => ⟨by show 4 ≤ 4; decide, fun v m => by
  rcases List.mem_cons.mp m with h | m
  · rw [h]; rfl
  rcases List.mem_cons.mp m with h | m
  · rw [h]; rfl
  rcases List.mem_cons.mp m with h | m
  · rw [h]; rfl
  · rw [List.mem_singleton.mp m]; rfl⟩
theorem ent_samed {α : Type} {img : α → List V} (ok : ImgOk img) {H : Hp} {n : Nat} {xs ys : List V} {es : List α} (h : EntL img H xs es) (k : EntL img H ys es) {i : Nat} {x y : V} (ex : xs[i]? = some x) (ey : ys[i]? = some y) : SameD (n + 1) H x y := by
  obtain ⟨e, t, he, rfl, ht⟩ := h.get ex
  obtain ⟨e', t', he', rfl, ht'⟩ := k.get ey
  rw [he] at he'
  cases he'
  obtain ⟨l, pl⟩ := ok e
  refine .inr ⟨t, t', _, _, rfl, rfl, .inl ⟨ht, ht'⟩, rfl, Nat.le_trans l (by decide), fun j a b ea eb => ?_⟩
  have q : a = b := Option.some.inj (ea.symm.trans eb)
  have pb := pl b (List.mem_of_getElem? eb)
  cases n with
  | zero => exact .inl ⟨q, pb⟩
  | succ n => exact .inl ⟨q, pb⟩
theorem rows_samed {α : Type} {img : α → List V} (ok : ImgOk img) {H : Hp} {n : Nat} {p q : Addr} {xs ys : List V} {es : List α} (hp : H p = some (.lst xs)) (hq : H q = some (.lst ys)) (h : EntL img H xs es) (k : EntL img H ys es) (l : es.length ≤ 4000000) : SameD (n + 2) H (.ref p) (.ref q) :=
  .inr ⟨p, q, xs, ys, rfl, rfl, .inr ⟨hp, hq⟩, h.len.trans k.len.symm, by rw [k.len]; exact l, fun _ _ _ ex ey => ent_samed ok h k ex ey⟩
/-- the six parts of a machine, as they are drawn -/
def Parts (H : Hp) (p : Addr) (r z : Str) (n : Int) (be : List (Int × Str)) (ae : List EnS.Arc) (ee : List (Int × Str)) : Prop := ∃ (b a e : Addr) (bx ax ex : List V), H p = some (.lst [.str r, .str z, .int n, .ref b, .ref a, .ref e]) ∧ H b = some (.lst bx) ∧ H a = some (.lst ax) ∧ H e = some (.lst ex) ∧
  IsAlpha r ∧ IsAlpha z ∧ 0 ≤ n ∧ n ≤ 64 ∧ bx.length ≤ 400 ∧ ax.length ≤ 400 ∧ ex.length ≤ 400 ∧ EntL pimg H bx be ∧ EntL aimg H ax ae ∧ EntL pimg H ex ee ∧ (∀ e ∈ be, GoodP z n e) ∧ (∀ e ∈ ae, GoodA r z n e) ∧ ∀ e ∈ ee, GoodP z n e
theorem But.made [Tabl] {m dx C : Addr} {H H' : Hp} (nm : H m = none) (nd : H dx = none) (ne : dx ≠ m) (b : But m (upd (upd H dx (.own m)) m (.ins C dx [])) H') : Same H H' := by
  have s1 := same_new (o := .own m) nd
  have nm' : (upd H dx (.own m)) m = none := by rw [upd_ne (Ne.symm ne)]; exact nm
  have s2 := same_new (o := .ins C dx []) nm'
  have s := s1.trans s2
  exact ⟨fun x o h k => b.old x o (fun z => by rw [z, nm] at h; cases h) (s.old x o h k) k, fun x ps h => let ⟨qs, e⟩ := s.tab x ps h; b.tab x qs e, fun g => b.good (s.good g)⟩
theorem samed_plain {n : Nat} {H : Hp} {x y : V} (h : SameD n H x y) (pl : plainV y = true) : x = y := by
  cases n with
  | zero =>
    rcases h with ⟨e, _⟩ | ⟨_, _, _, _, _, e, _⟩
    · exact e
    · rw [e] at pl; cases pl
  | succ n =>
    rcases h with ⟨e, _⟩ | ⟨_, _, _, _, _, e, _⟩
    · exact e
    · rw [e] at pl; cases pl
/-- what is like a list is a list of likes -/
theorem samed_lst {n : Nat} {H : Hp} {x : V} {q : Addr} {ys : List V} (h : SameD (n + 1) H x (.ref q)) (hq : H q = some (.lst ys)) : ∃ u xs, x = .ref u ∧ H u = some (.lst xs) ∧ xs.length = ys.length ∧ ∀ (i : Nat) (a b : V), xs[i]? = some a → ys[i]? = some b → SameD n H a b := by
  rcases h with ⟨_, pl⟩ | ⟨u, q', xs, ys', rfl, e, o, l, _, r⟩
  · cases pl
  · cases e
    rcases o with ⟨_, o2⟩ | ⟨o1, o2⟩
    · rw [hq] at o2; cases o2
    · rw [hq] at o2
      cases o2
      exact ⟨u, xs, rfl, o1, l, r⟩
theorem samed_tup {n : Nat} {H : Hp} {x : V} {q : Addr} {ys : List V} (h : SameD (n + 1) H x (.ref q)) (hq : H q = some (.tup ys)) : ∃ u xs, x = .ref u ∧ H u = some (.tup xs) ∧ xs.length = ys.length ∧ ∀ (i : Nat) (a b : V), xs[i]? = some a → ys[i]? = some b → SameD n H a b := by
  rcases h with ⟨_, pl⟩ | ⟨u, q', xs, ys', rfl, e, o, l, _, r⟩
  · cases pl
  · cases e
    rcases o with ⟨o1, o2⟩ | ⟨_, o2⟩
    · rw [hq] at o2
      cases o2
      exact ⟨u, xs, rfl, o1, l, r⟩
    · rw [hq] at o2; cases o2
/-- small atoms -/
def AtomsOk (vs : List V) : Prop := ∀ v ∈ vs, plainV v = true ∧ (∀ x : Str, v = .str x → x.length ≤ 4000000) ∧ ∀ i : Int, v = .int i → i.natAbs < 2 ^ 13000
theorem small_pow {i : Int} (h : i.natAbs < 64) : i.natAbs < 2 ^ 13000 := by
  have h2 : 2 ^ 6 ≤ 2 ^ 13000 := Nat.pow_le_pow_right (by omega) (by omega)
  exact Nat.lt_of_lt_of_le (show i.natAbs < 2 ^ 6 from h) h2
/-- lists in entries -/
theorem lists_lst {H : Hp} {n : Nat} {v : Addr} {vs : List V} {Ls : List (List Addr)} (hv : H v = some (.lst vs)) (l : vs.length ≤ 4000000) (ll : Ls.length = vs.length) (r : ∀ (i : Nat) (x : V) (l : List Addr), vs[i]? = some x → Ls[i]? = some l → ListsD n H x l) : ListsD (n + 1) H (.ref v) (Ls.flatten ++ [v]) :=
  .inr ⟨v, vs, Ls, rfl, l, ll, r, .inl ⟨hv, rfl⟩⟩
theorem flat_nil : ∀ (n : Nat), (List.replicate n ([] : List Addr)).flatten = []
  | 0 => rfl
  | n + 1 => by rw [List.replicate_succ, List.flatten_cons, flat_nil n]; rfl
theorem lists_plain {H : Hp} {n : Nat} {v : V} (h : plainV v = true) : ListsD n H v [] := by cases n <;> exact .inl ⟨h, rfl⟩
theorem lists_ents {α : Type} {img : α → List V} (ok : ImgOk img) {H : Hp} {n : Nat} {xs : List V} {es : List α} (en : EntL img H xs es) (i : Nat) (x : V) (l : List Addr) (ex : xs[i]? = some x) (el : (List.replicate xs.length ([] : List Addr))[i]? = some l) : ListsD (n + 1) H x l := by
  have el : l = [] := List.eq_of_mem_replicate (List.mem_of_getElem? el)
  subst el
  obtain ⟨e, t, he, rfl, ht⟩ := en.get ex
  refine .inr ⟨t, _, List.replicate (img e).length [], rfl, Nat.le_trans (ok e).1 (by decide), List.length_replicate .., fun j a l ea el => ?_, .inr ⟨ht, (flat_nil _).symm⟩⟩
  rw [List.eq_of_mem_replicate (List.mem_of_getElem? el)]
  exact lists_plain ((ok e).2 _ (List.mem_of_getElem? ea))
theorem EntL.lists {α : Type} {img : α → List V} {H : Hp} {n : Nat} {l : Addr} {xs : List V} {es : List α} (en : EntL img H xs es) (ok : ImgOk img) (hl : H l = some (.lst xs)) (le : es.length ≤ 4000000) : ListsD (n + 2) H (.ref l) [l] := by
  have h := lists_lst (n := n + 1) hl (by rw [en.len]; exact le) (List.length_replicate (a := ([] : List Addr)) ..) (lists_ents ok en)
  rw [flat_nil] at h
  exact h
/-- unlike places that are taken -/
structure Live (L : List Addr) (H : Hp) : Prop where
  nd : L.Nodup
  old : ∀ x ∈ L, ∃ o, H x = some o
theorem Live.nil {H : Hp} : Live [] H := ⟨List.nodup_nil, fun x m => absurd m List.not_mem_nil⟩
theorem Live.new {L : List Addr} {H : Hp} (h : Live L H) {l : Addr} {o : HO} (n : H l = none) : Live (L ++ [l]) (upd H l o) := by
  refine ⟨List.nodup_append.mpr ⟨h.nd, List.pairwise_singleton .., fun a ha b hb e => ?_⟩, fun x m => ?_⟩
  · rw [List.mem_singleton.mp hb] at e
    obtain ⟨o, q⟩ := h.old a ha
    rw [e, n] at q
    cases q
  · rcases List.mem_append.mp m with m | m
    · obtain ⟨o', q⟩ := h.old x m
      exact ⟨o', by rw [upd_ne (ne_of_none q n)]; exact q⟩
    · rw [List.mem_singleton.mp m]
      exact ⟨_, upd_same⟩
/-! ### machines, told with their places -/
def RowE (K : PySem.W.Frag) {α : Type} (img : α → List V) (H : Hp) (l : Addr) (es : List α) : Prop := ∃ xs, Own.RowAt K H l xs ∧ xs.length ≤ 400 ∧ EntL img H xs es
theorem RowE.same [Tabl] {K : PySem.W.Frag} {α : Type} {img : α → List V} {H H' : Hp} {l : Addr} {es : List α} (h : RowE K img H l es) (s : Same H H') : RowE K img H' l es := by
  obtain ⟨xs, h1, h2, h3⟩ := h
  exact ⟨xs, h1.same s, h2, h3.same s⟩
theorem RowE.lst {K : PySem.W.Frag} {α : Type} {img : α → List V} {H : Hp} {l : Addr} {xs : List V} {es : List α} (h : H l = some (.lst xs)) (en : EntL img H xs es) (le : es.length ≤ 400) : RowE K img H l es := ⟨xs, .inl h, by rw [en.len]; exact le, en⟩
theorem RowE.nil {K : PySem.W.Frag} {α : Type} {img : α → List V} {H : Hp} {l : Addr} (h : Own.KT0 K l) : RowE K img H l [] := ⟨[], .inr (.inr ⟨rfl, h⟩), Nat.zero_le _, .nil⟩
structure GoodM (r z : Str) (n : Int) (be : List (Int × Str)) (ae : List EnS.Arc) (ee : List (Int × Str)) : Prop where
  ar : IsAlpha r
  az : IsAlpha z
  n0 : 0 ≤ n
  n64 : n ≤ 64
  gb : ∀ e ∈ be, GoodP z n e
  ga : ∀ e ∈ ae, GoodA r z n e
  ge : ∀ e ∈ ee, GoodP z n e
structure Srt {α : Type} (lt : α → α → Prop) (ds es : List α) : Prop where
  pw : ds.Pairwise lt
  mem : ∀ e, e ∈ ds ↔ e ∈ es
  len : ds.length ≤ es.length
  l4 : ds.length ≤ 400
theorem Srt.eq {α : Type} {lt : α → α → Prop} {ds fs es : List α} (asym : ∀ a b, lt a b → lt b a → False) (h : Srt lt ds es) (k : Srt lt fs ds) : fs = ds := pw_unique asym k.pw h.pw fun y => k.mem y
/-- the machine at m, with its places and what they hold -/
structure MA (C : Addr) (H : Hp) (m : Addr) (r z : Str) (n : Int) (dx b a e : Addr) (bx ax ex : List V) (bd : List (Int × Str)) (ad : List EnS.Arc) (ed : List (Int × Str)) : Prop where
  ins : H m = some (.ins C dx (mfs r z n b a e))
  hb : H b = some (.lst bx)
  ha : H a = some (.lst ax)
  he : H e = some (.lst ex)
  nb : EntL pimg H bx bd
  na : EntL aimg H ax ad
  ne : EntL pimg H ex ed
section
variable {C : Addr} {H H' G : Hp} {m : Addr} {r z : Str} {n : Int} {dx b a e : Addr} {bx ax ex : List V} {bd : List (Int × Str)} {ad : List EnS.Arc} {ed : List (Int × Str)} {be : List (Int × Str)} {ae : List EnS.Arc} {ee : List (Int × Str)}
theorem MA.same [Tabl] (h : MA C H m r z n dx b a e bx ax ex bd ad ed) (s : Same H H') : MA C H' m r z n dx b a e bx ax ex bd ad ed := ⟨s _ _ h.ins, s _ _ h.hb, s _ _ h.ha, s _ _ h.he, h.nb.same s, h.na.same s, h.ne.same s⟩
theorem MA.butl [Tabl] {L : List Addr} (h : MA C H m r z n dx b a e bx ax ex bd ad ed) (k : ButL L H H') (hb : b ∉ L) (ha : a ∉ L) (he : e ∉ L) : MA C H' m r z n dx b a e bx ax ex bd ad ed := ⟨k.ins h.ins, k.row h.hb hb, k.row h.ha ha, k.row h.he he, h.nb.butl k, h.na.butl k, h.ne.butl k⟩
theorem Mach.places (h : Mach C H m r z n be ae ee) (y : Young C G H m) : ∃ dx b a e bx ax ex bd ad ed, MA C H m r z n dx b a e bx ax ex bd ad ed ∧ Srt EnS.PLt bd be ∧ Srt EnS.ALt ad ae ∧ Srt EnS.PLt ed ee ∧ b ≠ a ∧ b ≠ e ∧ a ≠ e ∧ G b = none ∧ G a = none ∧ G e = none := by
  obtain ⟨dx, b, a, e, hm, ⟨bx, bd, hb, nb, pb, mb, lb, b4⟩, ⟨ax, ad, ha, na, pa, ma, la, a4⟩, ⟨ex, ed, he, ne, pe, me, le, e4⟩, d⟩ := h
  obtain ⟨y1, y2, y3⟩ := y _ _ _ _ _ _ _ hm
  exact ⟨dx, b, a, e, bx, ax, ex, bd, ad, ed, ⟨hm, hb, ha, he, nb, na, ne⟩, ⟨pb, mb, lb, b4⟩, ⟨pa, ma, la, a4⟩, ⟨pe, me, le, e4⟩, d.1, d.2.1, d.2.2, y1, y2, y3⟩
theorem Young.back [Tabl] (s : Same G H) (y : Young C H H' m) : Young C G H' m := fun dx r z n b a e h => let ⟨y1, y2, y3⟩ := y dx r z n b a e h; ⟨s.free y1, s.free y2, s.free y3⟩
end
theorem EntL.butN [Tabl] {α : Type} {img : α → List V} {a : Addr} {H H' : Hp} {xs : List V} {es : List α} (h : EntL img H xs es) (k : But a H H') (hn : ∀ zs, H a ≠ some (.tup zs)) : EntL img H' xs es :=
  Paired.mapP h fun _ _ ⟨t, e, q⟩ => ⟨t, e, k _ _ (fun z => hn _ (by rw [← z]; exact q)) q⟩
theorem Sto.butl [Tabl] {L : List Addr} {H H' : Hp} {a c : Addr} (h : Sto H a c) (k : ButL L H H') (na : a ∉ L) (nc : c ∉ L) : Sto H' a c := by
  obtain ⟨ns, i, b, t, s, h1, h2, h3, h4⟩ := h
  exact ⟨ns, i, b, t, s, k.row h1 na, k.row h2 nc, h3, h4⟩
theorem Sto.some {H : Hp} {a c : Addr} (h : Sto H a c) : H a ≠ none ∧ H c ≠ none := by
  obtain ⟨ns, i, b, t, s, h1, h2, h3, h4⟩ := h
  rw [h1, h2]
  exact ⟨fun e => (by cases e), fun e => (by cases e)⟩
theorem Sto.ntup {H : Hp} {a c : Addr} (h : Sto H a c) (zs : List V) : H a ≠ Option.some (.tup zs) := by
  obtain ⟨ns, i, b, t, s, h1, h2, h3, h4⟩ := h
  rw [h1]
  exact fun e => (by cases e)
/-- a list of three told rows -/
structure Told3 (H : Hp) (v t1 t2 t3 : Addr) (x1 x2 x3 : List V) (bd : List (Int × Str)) (ad : List EnS.Arc) (ed : List (Int × Str)) : Prop where
  hv : H v = some (.lst [.ref t1, .ref t2, .ref t3])
  h1 : H t1 = some (.lst x1)
  h2 : H t2 = some (.lst x2)
  h3 : H t3 = some (.lst x3)
  n1 : EntL pimg H x1 bd
  n2 : EntL aimg H x2 ad
  n3 : EntL pimg H x3 ed
section
variable {H H' : Hp} {v t1 t2 t3 u s1 s2 s3 : Addr} {x1 x2 x3 y1 y2 y3 : List V} {bd : List (Int × Str)} {ad : List EnS.Arc} {ed : List (Int × Str)}
theorem Told3.same [Tabl] (h : Told3 H v t1 t2 t3 x1 x2 x3 bd ad ed) (s : Same H H') : Told3 H' v t1 t2 t3 x1 x2 x3 bd ad ed := ⟨s _ _ h.hv, s _ _ h.h1, s _ _ h.h2, s _ _ h.h3, h.n1.same s, h.n2.same s, h.n3.same s⟩
theorem Told3.butl [Tabl] {L : List Addr} (h : Told3 H v t1 t2 t3 x1 x2 x3 bd ad ed) (k : ButL L H H') (nv : v ∉ L) (n1 : t1 ∉ L) (n2 : t2 ∉ L) (n3 : t3 ∉ L) : Told3 H' v t1 t2 t3 x1 x2 x3 bd ad ed := ⟨k.row h.hv nv, k.row h.h1 n1, k.row h.h2 n2, k.row h.h3 n3, h.n1.butl k, h.n2.butl k, h.n3.butl k⟩
theorem Told3.like {n : Nat} (h : Told3 H v t1 t2 t3 x1 x2 x3 bd ad ed) (k : Told3 H u s1 s2 s3 y1 y2 y3 bd ad ed) (lb : bd.length ≤ 400) (la : ad.length ≤ 400) (le : ed.length ≤ 400) : SameD (n + 3) H (.ref v) (.ref u) :=
  .inr ⟨v, u, _, _, rfl, rfl, .inr ⟨h.hv, k.hv⟩, rfl, by show 3 ≤ 4000000; decide, fun i x y ex ey => by
    match i, ex, ey with
    | 0, rfl, rfl => exact rows_samed pimg_ok h.h1 k.h1 h.n1 k.n1 (by omega)
    | 1, rfl, rfl => exact rows_samed aimg_ok h.h2 k.h2 h.n2 k.n2 (by omega)
    | 2, rfl, rfl => exact rows_samed pimg_ok h.h3 k.h3 h.n3 k.n3 (by omega)⟩
theorem Told3.apart {c : Addr} {n : Nat} (h : Told3 H v t1 t2 t3 x1 x2 x3 bd ad ed) (d : Deep c (n + 1) H (.ref v)) : v ≠ c ∧ t1 ≠ c ∧ t2 ≠ c ∧ t3 ≠ c := by
  obtain ⟨d1, d2⟩ := deep_ref d (.inl h.hv)
  have d2 := d2 n rfl
  exact ⟨d1, (deep_ref (d2 _ List.mem_cons_self) (.inl h.h1)).1, (deep_ref (d2 _ (List.mem_cons_of_mem _ List.mem_cons_self)) (.inl h.h2)).1, (deep_ref (d2 _ (List.mem_cons_of_mem _ (List.mem_cons_of_mem _ List.mem_cons_self))) (.inl h.h3)).1⟩
theorem Told3.lists (h : Told3 H v t1 t2 t3 x1 x2 x3 bd ad ed) (lb : bd.length ≤ 400) (la : ad.length ≤ 400) (le : ed.length ≤ 400) : ListsD 4 H (.ref v) [t1, t2, t3, v] :=
  lists_lst (n := 3) (Ls := [[t1], [t2], [t3]]) h.hv (by show 3 ≤ 4000000; decide) rfl fun i x l ex el => by
    match i, ex, el with
    | 0, rfl, rfl => exact h.n1.lists pimg_ok h.h1 (by omega)
    | 1, rfl, rfl => exact h.n2.lists aimg_ok h.h2 (by omega)
    | 2, rfl, rfl => exact h.n3.lists pimg_ok h.h3 (by omega)
end
theorem GoodM.told {r z : Str} {n : Int} {be bd : List (Int × Str)} {ae ad : List EnS.Arc} {ee ed : List (Int × Str)} (g : GoodM r z n be ae ee) (sb : Srt EnS.PLt bd be) (sa : Srt EnS.ALt ad ae) (se : Srt EnS.PLt ed ee) : GoodM r z n bd ad ed :=
  ⟨g.ar, g.az, g.n0, g.n64, fun e m => g.gb e ((sb.mem e).mp m), fun e m => g.ga e ((sa.mem e).mp m), fun e m => g.ge e ((se.mem e).mp m)⟩
theorem Srt.two {α : Type} {lt : α → α → Prop} {ds fs es : List α} (asym : ∀ a b, lt a b → lt b a → False) (h : Srt lt ds es) (k : Srt lt fs es) : fs = ds := pw_unique asym k.pw h.pw fun y => (k.mem y).trans (h.mem y).symm
/-! a term's head laid open -/
theorem un_if {c : TT} {t u : TS} {D : Ends} {σ : L2.St} {H : Hp} (h : c σ H fun b H1 => if b = true then t D σ H1 else u D σ H1) : tIfS c t u D σ H := h
theorem un_or {t u : TT} {σ : L2.St} {H : Hp} {Q : Bool → Hp → Prop} (h : t σ H fun c H1 => if c = true then Q true H1 else u σ H1 Q) : tOr t u σ H Q := h
/-! ### drawn rows -/
/-- the list at l, new since H: entries that are good, at most N -/
def RowN {α : Type} (img : α → List V) (G : α → Prop) (a ca : Addr) (H H' : Hp) (l : Addr) (N : Nat) : Prop := ∃ xs es, H l = none ∧ l ≠ a ∧ l ≠ ca ∧ H' l = some (.lst xs) ∧ EntL img H' xs es ∧ (∀ e ∈ es, G e) ∧ xs.length ≤ N
section
variable {α : Type} {img : α → List V} {G : α → Prop} {a ca l : Addr} {H H' H2 : Hp} {N : Nat}
theorem RowN.but [Tabl] (h : RowN img G a ca H H' l N) (k : But a H' H2) (S : Sto H' a ca) : RowN img G a ca H H2 l N := by
  obtain ⟨xs, es, h1, h2, h3, h4, h5, h6, h7⟩ := h
  exact ⟨xs, es, h1, h2, h3, k _ _ h2 h4, h5.butN k S.ntup, h6, h7⟩
theorem RowN.same [Tabl] (h : RowN img G a ca H H' l N) (k : Same H' H2) : RowN img G a ca H H2 l N := by
  obtain ⟨xs, es, h1, h2, h3, h4, h5, h6, h7⟩ := h
  exact ⟨xs, es, h1, h2, h3, k _ _ h4, h5.same k, h6, h7⟩
theorem RowN.le {M : Nat} (h : RowN img G a ca H H' l N) (k : N ≤ M) : RowN img G a ca H H' l M := by
  obtain ⟨xs, es, h1, h2, h3, h4, h5, h6, h7⟩ := h
  exact ⟨xs, es, h1, h2, h3, h4, h5, h6, by omega⟩
theorem RowN.other [Tabl] {p : Addr} {ys zs : List V} (h : RowN img G a ca H H' l N) (ne : l ≠ p) (hp : H' p = some (.lst ys)) : RowN img G a ca H (upd H' p (.lst zs)) l N := by
  obtain ⟨xs, es, h1, h2, h3, h4, h5, h6, h7⟩ := h
  exact ⟨xs, es, h1, h2, h3, by rw [upd_ne ne]; exact h4, h5.butN (But.put hp) (fun zs e => (by rw [hp] at e; cases e)), h6, h7⟩
theorem RowN.nil (ns : H l = none) (na : l ≠ a) (nc : l ≠ ca) (hl : H' l = some (.lst [])) : RowN img G a ca H H' l 0 := ⟨[], [], ns, na, nc, hl, .nil, fun e m => absurd m List.not_mem_nil, Nat.le_refl _⟩
theorem EntL.snoc {xs : List V} {es : List α} {t : Addr} {e : α} (h : EntL img H xs es) (ht : H t = some (.tup (img e))) : EntL img H (xs ++ [.ref t]) (es ++ [e]) := Paired.snoc h ⟨t, rfl, ht⟩
/-- one entry more -/
theorem RowN.push [Tabl] {t : Addr} {e : α} {xs : List V} (h : RowN img G a ca H H' l N) (hl : H' l = some (.lst xs)) (ht : H' t = some (.tup (img e))) (g : G e) : RowN img G a ca H (upd H' l (.lst (xs ++ [.ref t]))) l (N + 1) := by
  obtain ⟨xs', es, h1, h2, h3, h4, h5, h6, h7⟩ := h
  rw [hl] at h4
  cases h4
  refine ⟨_, es ++ [e], h1, h2, h3, upd_same, (h5.snoc ht).butN (But.put hl) (fun zs e => (by rw [hl] at e; cases e)), fun e' m => ?_, by rw [List.length_append]; exact Nat.succ_le_succ h7⟩
  rcases List.mem_append.mp m with m | m
  · exact h6 e' m
  · rw [List.mem_singleton.mp m]
    exact g
theorem RowN.lt (h : RowN img G a ca H H' l N) (k : N < 1000) : ∃ xs, H' l = some (.lst xs) ∧ xs.length < sizeLine ∧ l ≠ a ∧ H l = none ∧ l ≠ ca ∧ xs.length ≤ N := by
  obtain ⟨xs, es, h1, h2, h3, h4, h5, h6, h7⟩ := h
  exact ⟨xs, h4, Nat.lt_of_le_of_lt h7 (Nat.lt_of_lt_of_le k (by decide)), h2, h1, h3, h7⟩
theorem RowN.ne {β : Type} {img' : β → List V} {G' : β → Prop} {l' : Addr} {M : Nat} {G0 : Hp} (h : RowN img G a ca H H' l N) (n : G0 l' = none) (k : ∀ o, H' l = some o → G0 l = some o) : l ≠ l' := fun e => by
  obtain ⟨xs, es, h1, h2, h3, h4, h5, h6, h7⟩ := h
  have := k _ h4
  rw [e, n] at this
  cases this
end
theorem RowN.weak {α : Type} {img : α → List V} {G G' : α → Prop} {a ca l : Addr} {H H' : Hp} {N : Nat} (h : RowN img G a ca H H' l N) (w : ∀ e, G e → G' e) : RowN img G' a ca H H' l N := by
  obtain ⟨xs, es, h1, h2, h3, h4, h5, h6, h7⟩ := h
  exact ⟨xs, es, h1, h2, h3, h4, h5, fun e m => w e (h6 e m), h7⟩
theorem EntL.sub {α : Type} {img : α → List V} {H : Hp} {xs : List V} {es : List α} (h : EntL img H xs es) : ∀ {ys : List V}, (∀ y ∈ ys, y ∈ xs) → ∃ fs, EntL img H ys fs ∧ ∀ e ∈ fs, e ∈ es
  | [], _ => ⟨[], .nil, fun e m => absurd m List.not_mem_nil⟩
  | y :: ys, s => by
    obtain ⟨fs, h1, h2⟩ := EntL.sub h (ys := ys) fun y' m => s y' (List.mem_cons_of_mem _ m)
    obtain ⟨i, hi⟩ := List.getElem?_of_mem (s y List.mem_cons_self)
    obtain ⟨e, t, he, rfl, ht⟩ := h.get hi
    refine ⟨e :: fs, .cons ⟨t, rfl, ht⟩ h1, fun e' m => ?_⟩
    rcases List.mem_cons.mp m with q | m
    · rw [q]
      exact List.mem_of_getElem? he
    · exact h2 e' m
/-- the j-th of three rows -/
def Rk (r z : Str) (n : Int) (a ca : Addr) (H : Hp) (δ : Nat) : Nat → Hp → Addr → Prop
  | 0 => fun H' l => RowN pimg (GoodP z n) a ca H H' l (6 + δ)
  | 1 => fun H' l => RowN aimg (GoodA r z n) a ca H H' l (138 + δ)
  | _ => fun H' l => RowN pimg (GoodP z n) a ca H H' l (6 + δ)
section
variable {r z : Str} {n : Int} {a ca : Addr} {H H' H2 : Hp} {δ : Nat} {l : Addr}
theorem Rk.but [Tabl] (k : But a H' H2) (S : Sto H' a ca) : ∀ {j : Nat}, Rk r z n a ca H δ j H' l → Rk r z n a ca H δ j H2 l
  | 0, h => RowN.but h k S
  | 1, h => RowN.but h k S
  | _ + 2, h => RowN.but h k S
theorem Rk.other [Tabl] {p : Addr} {ys zs : List V} (ne : l ≠ p) (hp : H' p = some (.lst ys)) : ∀ {j : Nat}, Rk r z n a ca H δ j H' l → Rk r z n a ca H δ j (upd H' p (.lst zs)) l
  | 0, h => RowN.other h ne hp
  | 1, h => RowN.other h ne hp
  | _ + 2, h => RowN.other h ne hp
theorem Rk.row : ∀ {j : Nat}, Rk r z n a ca H δ j H' l → H l = none ∧ l ≠ a ∧ l ≠ ca ∧ ∃ xs, H' l = some (.lst xs) ∧ xs.length ≤ 138 + δ
  | 0, ⟨xs, es, h1, h2, h3, h4, h5, h6, h7⟩ => ⟨h1, h2, h3, xs, h4, by omega⟩
  | 1, ⟨xs, es, h1, h2, h3, h4, h5, h6, h7⟩ => ⟨h1, h2, h3, xs, h4, by omega⟩
  | _ + 2, ⟨xs, es, h1, h2, h3, h4, h5, h6, h7⟩ => ⟨h1, h2, h3, xs, h4, by omega⟩
end
/-- three rows -/
structure Three [Tabl] (r z : Str) (n : Int) (a ca : Addr) (H H' : Hp) (hd lk st : Addr) : Prop where
  b : But a H H'
  s : Sto H' a ca
  r1 : RowN pimg (GoodP z n) a ca H H' hd 6
  r2 : RowN aimg (GoodA r z n) a ca H H' lk 138
  r3 : RowN pimg (GoodP z n) a ca H H' st 6
  n1 : hd ≠ lk
  n2 : hd ≠ st
  n3 : lk ≠ st
theorem Three.but [Tabl] {r z : Str} {n : Int} {a ca : Addr} {H H' H2 : Hp} {hd lk st : Addr} (h : Three r z n a ca H H' hd lk st) (k : But a H' H2) (S : Sto H2 a ca) : Three r z n a ca H H2 hd lk st :=
  ⟨h.b.trans k, S, h.r1.but k h.s, h.r2.but k h.s, h.r3.but k h.s, h.n1, h.n2, h.n3⟩
theorem RowN.some {α : Type} {img : α → List V} {G : α → Prop} {a ca l : Addr} {H H' : Hp} {N : Nat} (h : RowN img G a ca H H' l N) {p : Addr} (n : H' p = none) : l ≠ p := fun e => by
  obtain ⟨xs, es, h1, h2, h3, h4, h5, h6, h7⟩ := h
  rw [e, n] at h4
  cases h4
/-- the drawn parts of a machine -/
structure PD (a : Addr) (H : Hp) (p : Addr) (r z : Str) (n : Nat) (be : List (Int × Str)) (ae : List EnS.Arc) (ee : List (Int × Str)) (b c e : Addr) (bx ax ex : List V) : Prop where
  g : GoodM r z n be ae ee
  hp : H p = some (.lst [.str r, .str z, .int n, .ref b, .ref c, .ref e])
  hb : H b = some (.lst bx)
  hc : H c = some (.lst ax)
  he : H e = some (.lst ex)
  lb : bx.length ≤ 400
  la : ax.length ≤ 400
  le : ex.length ≤ 400
  eb : EntL pimg H bx be
  ea : EntL aimg H ax ae
  ee' : EntL pimg H ex ee
  pa : p ≠ a
  ba : b ≠ a
  ca : c ≠ a
  na : e ≠ a
section
variable {a p b c e : Addr} {H H' : Hp} {r z : Str} {n : Nat} {be : List (Int × Str)} {ae : List EnS.Arc} {ee : List (Int × Str)} {bx ax ex : List V}
theorem PD.but [Tabl] {s : Addr} (h : PD a H p r z n be ae ee b c e bx ax ex) (k : But a H H') (S : Sto H a s) : PD a H' p r z n be ae ee b c e bx ax ex :=
  ⟨h.g, k _ _ h.pa h.hp, k _ _ h.ba h.hb, k _ _ h.ca h.hc, k _ _ h.na h.he, h.lb, h.la, h.le, h.eb.butN k S.ntup, h.ea.butN k S.ntup, h.ee'.butN k S.ntup, h.pa, h.ba, h.ca, h.na⟩
theorem PD.same [Tabl] (h : PD a H p r z n be ae ee b c e bx ax ex) (k : Same H H') : PD a H' p r z n be ae ee b c e bx ax ex :=
  ⟨h.g, k _ _ h.hp, k _ _ h.hb, k _ _ h.hc, k _ _ h.he, h.lb, h.la, h.le, h.eb.same k, h.ea.same k, h.ee'.same k, h.pa, h.ba, h.ca, h.na⟩
theorem PD.parts (h : PD a H p r z n be ae ee b c e bx ax ex) : Parts H p r z n be ae ee :=
  ⟨b, c, e, bx, ax, ex, h.hp, h.hb, h.hc, h.he, h.g.ar, h.g.az, h.g.n0, h.g.n64, h.lb, h.la, h.le, h.eb, h.ea, h.ee', h.g.gb, h.g.ga, h.g.ge⟩
theorem MA.but [Tabl] {C m dx u v w s : Addr} {z' : Str} {m' : Int} {bd : List (Int × Str)} {ad : List EnS.Arc} {ed : List (Int × Str)} (h : MA C H m r z' m' dx u v w bx ax ex bd ad ed) (k : But a H H') (S : Sto H a s) (h1 : u ≠ a) (h2 : v ≠ a) (h3 : w ≠ a) : MA C H' m r z' m' dx u v w bx ax ex bd ad ed := by
  have hm : m ≠ a := fun e => by
    obtain ⟨ns, i, b, t, x, q, _⟩ := S
    have := h.ins
    rw [e, q] at this
    cases this
  exact ⟨k _ _ hm h.ins, k _ _ h1 h.hb, k _ _ h2 h.ha, k _ _ h3 h.he, h.nb.butN k S.ntup, h.na.butN k S.ntup, h.ne.butN k S.ntup⟩
end
end Lb

namespace Lb
open PySem PySem.Spec PyProof.Rows L2
/-! ### what is refused -/
/-- an error of the class at C with those fields, at any later heap -/
def RaisedF [Tabl] (H : Hp) (C : Addr) (fs : List (Str × V)) (E : XK) : Prop := ∀ (d : Addr) (H1 H' : Hp), Same H H1 → H1 d = none → H' = upd H1 d (.xd fs) → E (.ref C) (some d) H'
theorem RaisedF.same [Tabl] {H H1 : Hp} {C : Addr} {fs : List (Str × V)} {E : XK} (r : RaisedF H C fs E) (s : Same H H1) : RaisedF H1 C fs E := fun d H2 H' s2 n e => r d H2 H' (s.trans s2) n e
/-- what is wrong with a row of entries: it is none, it is too long, one of it is wrong -/
inductive Flt where
  | shape
  | large
  | at (k : Nat)
def Flt.cls (cE cL : Addr) : Flt → Addr
  | .large => cL
  | _ => cE
def Flt.fs (pl : Str) : Flt → List (Str × V)
  | .shape => [("index", .non), ("place", .str pl)]
  | .large => [("limit", .int 400), ("what", .str pl)]
  | .at k => [("index", .int (k : Nat)), ("place", .str pl)]
def FltAt (K : PySem.W.Frag) (Ok : Hp → V → Prop) (H : Hp) (v : V) : Flt → Prop
  | .shape => plainV v = true
  | .large => ∃ p xs, v = .ref p ∧ Own.RowAt K H p xs ∧ 400 < xs.length ∧ xs.length ≤ 4000000
  | .at k => ∃ p xs x, v = .ref p ∧ Own.RowAt K H p xs ∧ xs.length ≤ 400 ∧ xs[k]? = some x ∧ ¬ Ok H x ∧ ∀ j y, j ≤ k → xs[j]? = some y → (j < k → Ok H y) ∧ Shal H y ∧ Inner H y
theorem shal_row {H : Hp} {t : Addr} (h : Shal H (.ref t)) : ∃ xs, H t = some (.lst xs) ∨ H t = some (.tup xs) := by
  rcases h with ⟨x, e, _⟩ | e | ⟨b, e⟩ | ⟨i, e⟩ | ⟨p, ys, e, o⟩
  · cases e
  · cases e
  · cases e
  · cases e
  · cases e
    exact ⟨ys, o⟩
theorem tup_back [Tabl] {H H' : Hp} {t : Addr} {xs : List V} (s : Same H H') (h : Shal H (.ref t)) (k : H' t = some (.tup xs)) : H t = some (.tup xs) := by
  obtain ⟨ys, o | o⟩ := shal_row h
  · rw [s _ _ o] at k
    cases k
  · rw [s _ _ o] at k
    cases k
    exact o
theorem PairV.back [Tabl] {H H' : Hp} {z : Str} {n : Int} {v : V} (s : Same H H') (sh : Shal H v) (h : PairV H' z n v) : PairV H z n v := by
  obtain ⟨t, i, x, rfl, ht, r⟩ := h
  exact ⟨t, i, x, rfl, tup_back s sh ht, r⟩
theorem PairV.same [Tabl] {H H' : Hp} {z : Str} {n : Int} {v : V} (s : Same H H') (h : PairV H z n v) : PairV H' z n v := by
  obtain ⟨t, i, x, rfl, ht, r⟩ := h
  exact ⟨t, i, x, rfl, s _ _ ht, r⟩
theorem ArcV.back [Tabl] {H H' : Hp} {r z : Str} {n : Int} {v : V} (s : Same H H') (sh : Shal H v) (h : ArcV H' r z n v) : ArcV H r z n v := by
  obtain ⟨t, i, l, x, j, rfl, ht, q⟩ := h
  exact ⟨t, i, l, x, j, rfl, tup_back s sh ht, q⟩
theorem ArcV.same [Tabl] {H H' : Hp} {r z : Str} {n : Int} {v : V} (s : Same H H') (h : ArcV H r z n v) : ArcV H' r z n v := by
  obtain ⟨t, i, l, x, j, rfl, ht, q⟩ := h
  exact ⟨t, i, l, x, j, rfl, s _ _ ht, q⟩
/-- lists and tuples stand -/
structure Kt (H H' : Hp) : Prop where
  l : ∀ t xs, H t = some (.lst xs) → H' t = some (.lst xs)
  t : ∀ t xs, H t = some (.tup xs) → H' t = some (.tup xs)
theorem Kt.ins [Tabl] {m C dx : Addr} {fs : List (Str × V)} {H H' : Hp} (k : But m H H') (hm : H m = some (.ins C dx fs)) : Kt H H' :=
  ⟨fun t xs h => k _ _ (fun e => by rw [e, hm] at h; cases h) h, fun t xs h => k _ _ (fun e => by rw [e, hm] at h; cases h) h⟩
section
variable {H H' : Hp} {v : V}
theorem Shal.kt (h : Shal H v) (k : Kt H H') : Shal H' v := by
  rcases h with h | h | h | h | ⟨p, ys, e, o⟩
  · exact .inl h
  · exact .inr (.inl h)
  · exact .inr (.inr (.inl h))
  · exact .inr (.inr (.inr (.inl h)))
  · exact .inr (.inr (.inr (.inr ⟨p, ys, e, o.imp (k.l _ _) (k.t _ _)⟩)))
theorem kt_back {t : Addr} {xs : List V} (k : Kt H H') (h : Shal H (.ref t)) (g : H' t = some (.tup xs)) : H t = some (.tup xs) := by
  obtain ⟨ys, o | o⟩ := shal_row h
  · rw [k.l _ _ o] at g
    cases g
  · rw [k.t _ _ o] at g
    cases g
    exact o
theorem Inner.kt (sh : Shal H v) (h : Inner H v) (k : Kt H H') : Inner H' v := fun t xs e ht y hy => by
  subst e
  exact (h t xs rfl (kt_back k sh ht) y hy).kt k
theorem PairV.kt {z : Str} {n : Int} (k : Kt H H') (sh : Shal H v) : PairV H' z n v ↔ PairV H z n v := by
  constructor
  · rintro ⟨t, i, x, rfl, ht, r⟩
    exact ⟨t, i, x, rfl, kt_back k sh ht, r⟩
  · rintro ⟨t, i, x, rfl, ht, r⟩
    exact ⟨t, i, x, rfl, k.t _ _ ht, r⟩
theorem ArcV.kt {r z : Str} {n : Int} (k : Kt H H') (sh : Shal H v) : ArcV H' r z n v ↔ ArcV H r z n v := by
  constructor
  · rintro ⟨t, i, l, x, j, rfl, ht, q⟩
    exact ⟨t, i, l, x, j, rfl, kt_back k sh ht, q⟩
  · rintro ⟨t, i, l, x, j, rfl, ht, q⟩
    exact ⟨t, i, l, x, j, rfl, k.t _ _ ht, q⟩
theorem RowAt.kt {K : PySem.W.Frag} {p : Addr} {xs : List V} (h : Own.RowAt K H p xs) (k : Kt H H') : Own.RowAt K H' p xs := h.imp (k.l _ _) fun h => h.imp (k.t _ _) id
theorem FltAt.kt {K : PySem.W.Frag} {Ok : Hp → V → Prop} (ok : ∀ x, Shal H x → (Ok H' x ↔ Ok H x)) (k : Kt H H') : ∀ {f : Flt}, FltAt K Ok H v f → FltAt K Ok H' v f
  | .shape, h => h
  | .large, ⟨p, xs, e, h, l⟩ => ⟨p, xs, e, RowAt.kt h k, l⟩
  | .at j, ⟨p, xs, x, e, h, l, hx, bad, bef⟩ => by
    refine ⟨p, xs, x, e, RowAt.kt h k, l, hx, fun o => bad ((ok x (bef j x (Nat.le_refl _) hx).2.1).mp o), fun i y hi hy => ?_⟩
    obtain ⟨b1, b2, b3⟩ := bef i y hi hy
    exact ⟨fun z => (ok y b2).mpr (b1 z), b2.kt k, b3.kt b2 k⟩
end
/-- what is wrong with what a machine is made of -/
inductive MF where
  | read
  | write
  | size
  | begins (f : Flt)
  | arcs (f : Flt)
  | ends (f : Flt)
def MF.cls (cL cN cE cT : Addr) : MF → Addr
  | .read => cL
  | .write => cL
  | .size => cN
  | .begins f => f.cls cE cT
  | .arcs f => f.cls cE cT
  | .ends f => f.cls cE cT
def MF.fs (rv zv nv : V) : MF → List (Str × V)
  | .read => [("value", rv)]
  | .write => [("value", zv)]
  | .size => [("value", nv)]
  | .begins f => f.fs (Str.ofString "begins")
  | .arcs f => f.fs (Str.ofString "arcs")
  | .ends f => f.fs (Str.ofString "ends")
def Base (rv zv nv : V) (r z : Str) (n : Int) : Prop := rv = .str r ∧ zv = .str z ∧ nv = .int n ∧ IsAlpha r ∧ IsAlpha z ∧ 0 ≤ n ∧ n ≤ 64
def MFAt (K : PySem.W.Frag) (H : Hp) (rv zv nv bv av ev : V) : MF → Prop
  | .read => Shal H rv ∧ ¬ AlphaV rv
  | .write => (∃ r, rv = .str r ∧ IsAlpha r) ∧ Shal H zv ∧ ¬ AlphaV zv
  | .size => (∃ r, rv = .str r ∧ IsAlpha r) ∧ (∃ z, zv = .str z ∧ IsAlpha z) ∧ Shal H nv ∧ inR nv 0 64 = false
  | .begins f => ∃ r z n, Base rv zv nv r z n ∧ FltAt K (fun H v => PairV H z n v) H bv f
  | .arcs f => ∃ r z n b be, Base rv zv nv r z n ∧ bv = .ref b ∧ RowE K pimg H b be ∧ (∀ e ∈ be, GoodP z n e) ∧ FltAt K (fun H v => ArcV H r z n v) H av f
  | .ends f => ∃ r z n b be a ae, Base rv zv nv r z n ∧ bv = .ref b ∧ RowE K pimg H b be ∧ (∀ e ∈ be, GoodP z n e) ∧ av = .ref a ∧ RowE K aimg H a ae ∧ (∀ e ∈ ae, GoodA r z n e) ∧ FltAt K (fun H v => PairV H z n v) H ev f
theorem RowE.kt {K : PySem.W.Frag} {α : Type} {img : α → List V} {H H' : Hp} {l : Addr} {es : List α} (h : RowE K img H l es) (k : Kt H H') : RowE K img H' l es := by
  obtain ⟨xs, h1, h2, h3⟩ := h
  exact ⟨xs, RowAt.kt h1 k, h2, Paired.mapP h3 fun _ _ ⟨t, e, q⟩ => ⟨t, e, k.t _ _ q⟩⟩
theorem MFAt.kt {K : PySem.W.Frag} {H H' : Hp} {rv zv nv bv av ev : V} (k : Kt H H') : ∀ {f : MF}, MFAt K H rv zv nv bv av ev f → MFAt K H' rv zv nv bv av ev f
  | .read, ⟨h, b⟩ => ⟨h.kt k, b⟩
  | .write, ⟨a, h, b⟩ => ⟨a, h.kt k, b⟩
  | .size, ⟨a, c, h, b⟩ => ⟨a, c, h.kt k, b⟩
  | .begins f, ⟨r, z, n, b, h⟩ => ⟨r, z, n, b, h.kt (fun _ s => PairV.kt k s) k⟩
  | .arcs f, ⟨r, z, n, b, be, h1, h2, h3, h4, h⟩ => ⟨r, z, n, b, be, h1, h2, h3.kt k, h4, h.kt (fun _ s => ArcV.kt k s) k⟩
  | .ends f, ⟨r, z, n, b, be, a, ae, h1, h2, h3, h4, h5, h6, h7, h⟩ => ⟨r, z, n, b, be, a, ae, h1, h2, h3.kt k, h4, h5, h6.kt k, h7, h.kt (fun _ s => PairV.kt k s) k⟩
/-- it is refused with that -/
def RefusedM [Tabl] (m : Addr) (H : Hp) (C : Addr) (fs : List (Str × V)) (E : XK) : Prop := ∀ (d : Addr) (H1 H' : Hp), But m H H1 → H1 d = none → H' = upd H1 d (.xd fs) → E (.ref C) (some d) H'
/-- drawn entries, also over no states -/
def EP (z : Str) (n : Int) (e : Int × Str) : Prop := 0 ≤ e.1 ∧ e.1 ≤ 1000 ∧ (1 ≤ n → e.1 ≤ n - 1) ∧ Over z e.2 ∧ e.2.length ≤ 400
def EA (r z : Str) (n : Int) (e : EnS.Arc) : Prop := 0 ≤ e.1 ∧ e.1 ≤ 1000 ∧ (1 ≤ n → e.1 ≤ n - 1) ∧ e.2.1.length = 1 ∧ Over r e.2.1 ∧ Over z e.2.2.1 ∧ e.2.2.1.length ≤ 100 ∧ 0 ≤ e.2.2.2 ∧ e.2.2.2 ≤ 1000 ∧ (1 ≤ n → e.2.2.2 ≤ n - 1)
theorem EP.good {z : Str} {n : Int} {e : Int × Str} (h : EP z n e) (k : 1 ≤ n) : GoodP z n e := ⟨h.1, h.2.2.1 k, h.2.2.2.1, by have := h.2.2.2.2; omega⟩
theorem EA.good {r z : Str} {n : Int} {e : EnS.Arc} (h : EA r z n e) (k : 1 ≤ n) : GoodA r z n e := by
  obtain ⟨h1, h2, h3, h4, h5, h6, h7, h8, h9, h10⟩ := h
  exact ⟨h1, h3 k, h4, h5, h6, by omega, h8, h10 k⟩
/-! ### wrong texts -/
/-! ### the flat keys of entries -/
def okeyP (i : Int) (x : Str) : PyData := .tuple [.int i, .int ((x.length : Nat) : Int), .str x]
def okeyA (i : Int) (l x : Str) (j : Int) : PyData := .tuple [.int i, .str l, .int ((x.length : Nat) : Int), .str x, .int j]
theorem lt_okeyP (i : Int) (x : Str) (j : Int) (y : Str) : PySem.W.dataLt (okeyP i x) (okeyP j y) = PySem.W.dataLt (EnS.pkey i x) (EnS.pkey j y) := by
  unfold okeyP EnS.pkey
  rw [PySem.W.dataLt_tuple, PySem.W.dataLt_cons (EnS.alike_ii _ _), PySem.W.dataLt_cons (EnS.alike_ii _ _), PySem.W.dataLt_cons (EnS.alike_ss _ _), PySem.W.dataLt_pair (EnS.alike_ii _ _) (EnS.alike_w _ _), EnS.lt_w, PySem.W.dataLt_int, PySem.W.dataLt_int, PySem.W.dataLt_str]
  by_cases hi : i = j
  · rw [if_pos ((EnS.eqv_ii _ _).mpr hi), if_pos ((EnS.eqv_ii _ _).mpr hi)]
    by_cases hx : x = y
    · subst hx
      rw [if_pos ((EnS.eqv_ii _ _).mpr rfl), if_pos ((EnS.eqv_ss _ _).mpr rfl), if_pos ((EnS.eqv_w _ _).mpr rfl)]
      rfl
    · rw [if_neg (fun z => hx ((EnS.eqv_w _ _).mp z)), if_neg (fun z => hx ((EnS.eqv_ss _ _).mp z))]
      unfold MinQ.kLt
      by_cases h : x.length = y.length
      · rw [if_pos ((EnS.eqv_ii _ _).mpr (by rw [h])), if_pos h]
      · rw [if_neg (fun z => h (by have := (EnS.eqv_ii _ _).mp z; omega)), if_neg h]
        exact decide_eq_decide.mpr (by omega)
  · rw [if_neg (fun z => hi ((EnS.eqv_ii _ _).mp z)), if_neg (fun z => hi ((EnS.eqv_ii _ _).mp z))]
theorem lt_okeyA (i : Int) (l x : Str) (j : Int) (i' : Int) (l' x' : Str) (j' : Int) : PySem.W.dataLt (okeyA i l x j) (okeyA i' l' x' j') = PySem.W.dataLt (EnS.akey i l x j) (EnS.akey i' l' x' j') := by
  unfold okeyA EnS.akey
  rw [PySem.W.dataLt_tuple, PySem.W.dataLt_cons (EnS.alike_ii _ _), PySem.W.dataLt_cons (EnS.alike_ss _ _), PySem.W.dataLt_cons (EnS.alike_ii _ _), PySem.W.dataLt_cons (EnS.alike_ss _ _), PySem.W.dataLt_cons (EnS.alike_ii _ _), PySem.W.dataLt_tuple, PySem.W.dataLt_cons (EnS.alike_ii _ _), PySem.W.dataLt_cons (EnS.alike_ss _ _), PySem.W.dataLt_cons (EnS.alike_w _ _), PySem.W.dataLt_cons (EnS.alike_ii _ _), EnS.lt_w]
  by_cases hi : i = i'
  case neg => rw [if_neg (fun z => hi ((EnS.eqv_ii _ _).mp z)), if_neg (fun z => hi ((EnS.eqv_ii _ _).mp z))]
  rw [if_pos ((EnS.eqv_ii _ _).mpr hi), if_pos ((EnS.eqv_ii _ _).mpr hi)]
  by_cases hl : l = l'
  case neg => rw [if_neg (fun z => hl ((EnS.eqv_ss _ _).mp z)), if_neg (fun z => hl ((EnS.eqv_ss _ _).mp z))]
  rw [if_pos ((EnS.eqv_ss _ _).mpr hl), if_pos ((EnS.eqv_ss _ _).mpr hl)]
  by_cases hx : x = x'
  · subst hx
    rw [if_pos ((EnS.eqv_ii _ _).mpr rfl), if_pos ((EnS.eqv_ss _ _).mpr rfl), if_pos ((EnS.eqv_w _ _).mpr rfl)]
  · rw [if_neg (fun z => hx ((EnS.eqv_w _ _).mp z)), if_neg (fun z => hx ((EnS.eqv_ss _ _).mp z)), PySem.W.dataLt_int, PySem.W.dataLt_str]
    unfold MinQ.kLt
    by_cases h : x.length = x'.length
    · rw [if_pos ((EnS.eqv_ii _ _).mpr (by rw [h])), if_pos h]
    · rw [if_neg (fun z => h (by have := (EnS.eqv_ii _ _).mp z; omega)), if_neg h]
      exact decide_eq_decide.mpr (by omega)
def relO (H : Hp) (v : V) (d : PyData) : Prop := (∃ (t : Addr) (i : Int) (x : Str), v = .ref t ∧ H t = some (.tup [.int i, .str x]) ∧ x.length ≤ 4000000 ∧ d = okeyP i x) ∨
  ∃ (t : Addr) (i : Int) (l x : Str) (j : Int), v = .ref t ∧ H t = some (.tup [.int i, .str l, .str x, .int j]) ∧ x.length ≤ 4000000 ∧ d = okeyA i l x j
theorem alike_okeyP (i : Int) (x : Str) (j : Int) (y : Str) : PySem.W.alike (okeyP i x) (okeyP j y) = true := by simp [okeyP, PySem.W.alike, PySem.W.alikeAll]
theorem alike_okeyA (i : Int) (l x : Str) (j : Int) (i' : Int) (l' x' : Str) (j' : Int) : PySem.W.alike (okeyA i l x j) (okeyA i' l' x' j') = true := by simp [okeyA, PySem.W.alike, PySem.W.alikeAll]
theorem depth_okeyP (i : Int) (x : Str) : (okeyP i x).depth ≤ 16 := by simp [okeyP, PyData.depth, PyData.depthAll]
theorem depth_okeyA (i : Int) (l x : Str) (j : Int) : (okeyA i l x j).depth ≤ 16 := by simp [okeyA, PyData.depth, PyData.depthAll]
/-! ### sorted, and each once -/
def kd : L2.Key → PyData
  | .inl i => .int i
  | .inr x => .str x
def kdata (k : List L2.Key) : PyData := .tuple (k.map kd)
/-- the order of keys -/
def KLt (k k' : List L2.Key) : Prop := (∃ e f, k = ppk e ∧ k' = ppk f ∧ EnS.PLt e f) ∨ ∃ e f, k = apk e ∧ k' = apk f ∧ EnS.ALt e f
/-- what sorted makes of a row -/
structure SortK (H : Hp) (l : Addr) (ks : List (List L2.Key)) (xs : List V) (key : V → PyData) (fs : List (List L2.Key)) : Prop where
  row : H l = some (.lst xs)
  rel : ∀ x ∈ xs, relO H x (key x)
  al : PySem.W.AllAlike (xs.map key)
  so : PySem.W.Sortable (xs.map key)
  dp : ∀ x ∈ xs, (key x).depth ≤ 16
  ent : EntL kimg H (xs.mergeSort (PySem.W.dataLe false key)) fs
  pw : fs.Pairwise fun a b => a = b ∨ KLt a b
  mem : ∀ e, e ∈ fs ↔ e ∈ ks
  len : xs.length ≤ 400
  sh : ∀ k ∈ fs, SeqAt.shaped (kdata k) = true
theorem SortK.pairs {H : Hp} {l : Addr} {xs : List V} {es : List (Int × Str)} (hl : H l = some (.lst xs)) (en : EntL pimg H xs es) (le : xs.length ≤ 400) (b : ∀ e ∈ es, e.2.length ≤ 400) (sh : ∀ e ∈ es, SeqAt.shaped (kdata (ppk e)) = true) : ∃ key fs, SortK H l (es.map ppk) xs key fs := by
  have dat := fun t e => pdec_at (H := H) t e
  have of : ∀ v ∈ xs, ∃ e t, e ∈ es ∧ v = .ref t ∧ H t = some (.tup (pimg e)) := fun v hv => by
    obtain ⟨i, hi⟩ := List.getElem?_of_mem hv
    obtain ⟨e, t, he, ev, ht⟩ := en.get hi
    exact ⟨e, t, List.mem_of_getElem? he, ev, ht⟩
  obtain ⟨e1, en2⟩ := en.perm dat (List.mergeSort_perm xs (PySem.W.dataLe false fun v => okeyP (pdec H v).1 (pdec H v).2))
  have pm := (List.mergeSort_perm xs (PySem.W.dataLe false fun v => okeyP (pdec H v).1 (pdec H v).2)).map (pdec H)
  rw [← e1] at pm
  refine ⟨fun v => okeyP (pdec H v).1 (pdec H v).2, ((xs.mergeSort (PySem.W.dataLe false fun v => okeyP (pdec H v).1 (pdec H v).2)).map (pdec H)).map ppk, hl, fun v hv => ?_, fun d hd d' hd' => ?_, .inl fun d hd => ?_, fun v hv => depth_okeyP _ _, en2.keys ppk fun _ => rfl, ?_, mem_map_inj fun e => pm.mem_iff, le, fun k hk => ?_⟩
  · obtain ⟨e, t, he, rfl, ht⟩ := of v hv
    exact .inl ⟨t, e.1, e.2, rfl, ht, Nat.le_trans (b e he) (by decide), by rw [dat t e ht]⟩
  · obtain ⟨v, _, rfl⟩ := List.mem_map.mp hd
    obtain ⟨v', _, rfl⟩ := List.mem_map.mp hd'
    exact alike_okeyP _ _ _ _
  · obtain ⟨v, _, rfl⟩ := List.mem_map.mp hd
    exact ⟨_, _, rfl⟩
  · rw [List.pairwise_map, List.pairwise_map]
    refine (EnS.sort_pair (fun v => okeyP (pdec H v).1 (pdec H v).2) xs).imp fun {a b} h => ?_
    rw [lt_okeyP] at h
    by_cases e : pdec H a = pdec H b
    · exact .inl (by rw [e])
    · exact .inr (.inl ⟨_, _, rfl, rfl, EnS.le_pkey h e⟩)
  · obtain ⟨e, he, rfl⟩ := List.mem_map.mp hk
    exact sh e (pm.mem_iff.mp he)
theorem SortK.arcs {H : Hp} {l : Addr} {xs : List V} {es : List EnS.Arc} (hl : H l = some (.lst xs)) (en : EntL aimg H xs es) (le : xs.length ≤ 400) (b : ∀ e ∈ es, e.2.2.1.length ≤ 400) (sh : ∀ e ∈ es, SeqAt.shaped (kdata (apk e)) = true) : ∃ key fs, SortK H l (es.map apk) xs key fs := by
  have dat := fun t e => adec_at (H := H) t e
  have of : ∀ v ∈ xs, ∃ e t, e ∈ es ∧ v = .ref t ∧ H t = some (.tup (aimg e)) := fun v hv => by
    obtain ⟨i, hi⟩ := List.getElem?_of_mem hv
    obtain ⟨e, t, he, ev, ht⟩ := en.get hi
    exact ⟨e, t, List.mem_of_getElem? he, ev, ht⟩
  obtain ⟨e1, en2⟩ := en.perm dat (List.mergeSort_perm xs (PySem.W.dataLe false fun v => okeyA (adec H v).1 (adec H v).2.1 (adec H v).2.2.1 (adec H v).2.2.2))
  have pm := (List.mergeSort_perm xs (PySem.W.dataLe false fun v => okeyA (adec H v).1 (adec H v).2.1 (adec H v).2.2.1 (adec H v).2.2.2)).map (adec H)
  rw [← e1] at pm
  refine ⟨fun v => okeyA (adec H v).1 (adec H v).2.1 (adec H v).2.2.1 (adec H v).2.2.2, ((xs.mergeSort (PySem.W.dataLe false fun v => okeyA (adec H v).1 (adec H v).2.1 (adec H v).2.2.1 (adec H v).2.2.2)).map (adec H)).map apk, hl, fun v hv => ?_, fun d hd d' hd' => ?_, .inl fun d hd => ?_, fun v hv => depth_okeyA _ _ _ _, en2.keys apk fun _ => rfl, ?_, mem_map_inj fun e => pm.mem_iff, le, fun k hk => ?_⟩
  · obtain ⟨e, t, he, rfl, ht⟩ := of v hv
    exact .inr ⟨t, e.1, e.2.1, e.2.2.1, e.2.2.2, rfl, ht, Nat.le_trans (b e he) (by decide), by rw [dat t e ht]⟩
  · obtain ⟨v, _, rfl⟩ := List.mem_map.mp hd
    obtain ⟨v', _, rfl⟩ := List.mem_map.mp hd'
    exact alike_okeyA _ _ _ _ _ _ _ _
  · obtain ⟨v, _, rfl⟩ := List.mem_map.mp hd
    exact ⟨_, _, rfl⟩
  · rw [List.pairwise_map, List.pairwise_map]
    refine (EnS.sort_pair (fun v => okeyA (adec H v).1 (adec H v).2.1 (adec H v).2.2.1 (adec H v).2.2.2) xs).imp fun {a b} h => ?_
    rw [lt_okeyA] at h
    by_cases e : adec H a = adec H b
    · exact .inl (by rw [e])
    · exact .inr (.inr ⟨_, _, rfl, rfl, EnS.le_akey h e⟩)
  · obtain ⟨e, he, rfl⟩ := List.mem_map.mp hk
    exact sh e (pm.mem_iff.mp he)
/-- each once, so far -/
structure OnceK (H : Hp) (D : Addr) (fs : List (List L2.Key)) (i : Nat) : Prop where
  out : ∃ ys gs, H D = some (.lst ys) ∧ EntL kimg H ys gs ∧ gs.Pairwise KLt ∧ (∀ e, e ∈ gs ↔ e ∈ fs.take i) ∧ gs.length ≤ i
/-- how an error is told -/
def RefT (cL cN cE cT : Addr) (cls : Value) (fs : List (Str × V)) (zs : List V) : Prop :=
  (cls = .ref cL ∧ ∃ v, fs = ([("value", v)] : List (Str × V)) ∧ zs = [.str (Str.ofString "BadLetters"), v]) ∨
  (cls = .ref cN ∧ ∃ v, fs = ([("value", v)] : List (Str × V)) ∧ zs = [.str (Str.ofString "BadNumber"), v]) ∨
  (cls = .ref cE ∧ ∃ v u, fs = ([("index", u), ("place", v)] : List (Str × V)) ∧ zs = [.str (Str.ofString "BadEntry"), v, u]) ∨
  (cls = .ref cT ∧ ∃ v u, fs = ([("limit", u), ("what", v)] : List (Str × V)) ∧ zs = [.str (Str.ofString "TooLarge"), v, u])
def Flt.zs (pl : Str) : Flt → List V
  | .shape => [.str (Str.ofString "BadEntry"), .str pl, .non]
  | .large => [.str (Str.ofString "TooLarge"), .str pl, .int 400]
  | .at k => [.str (Str.ofString "BadEntry"), .str pl, .int (k : Nat)]
def MF.zs (rv zv nv : V) : MF → List V
  | .read => [.str (Str.ofString "BadLetters"), rv]
  | .write => [.str (Str.ofString "BadLetters"), zv]
  | .size => [.str (Str.ofString "BadNumber"), nv]
  | .begins f => f.zs (Str.ofString "begins")
  | .arcs f => f.zs (Str.ofString "arcs")
  | .ends f => f.zs (Str.ofString "ends")
def MF.pos : MF → Nat
  | .read => 0
  | .write => 1
  | .size => 2
  | .begins _ => 3
  | .arcs _ => 4
  | .ends _ => 5
/-- what stands behind the wrong one does not matter -/
theorem MFAt.later {K : PySem.W.Frag} {H : Hp} {rv zv nv bv av ev : V} {f : MF} (h : MFAt K H rv zv nv bv av ev f) {j : Nat} (hp : f.pos < j) (h6 : j < 6) :
    ∃ zv' nv' bv' av' ev', [rv, zv, nv, bv, av, ev].set j .non = [rv, zv', nv', bv', av', ev'] ∧ MFAt K H rv zv' nv' bv' av' ev' f ∧ f.zs rv zv' nv' = f.zs rv zv nv ∧ (zv' = zv ∨ zv' = .non) ∧ (nv' = nv ∨ nv' = .non) ∧ (bv' = bv ∨ bv' = .non) ∧ (av' = av ∨ av' = .non) ∧ (ev' = ev ∨ ev' = .non) := by
  obtain rfl | rfl | rfl | rfl | rfl : j = 1 ∨ j = 2 ∨ j = 3 ∨ j = 4 ∨ j = 5 := by omega
  · cases f with
    | read => exact ⟨.non, nv, bv, av, ev, rfl, h, rfl, .inr rfl, .inl rfl, .inl rfl, .inl rfl, .inl rfl⟩
    | _ => exact absurd hp (by show ¬ _ < 1; simp [MF.pos])
  · cases f with
    | read => exact ⟨zv, .non, bv, av, ev, rfl, h, rfl, .inl rfl, .inr rfl, .inl rfl, .inl rfl, .inl rfl⟩
    | write => exact ⟨zv, .non, bv, av, ev, rfl, h, rfl, .inl rfl, .inr rfl, .inl rfl, .inl rfl, .inl rfl⟩
    | _ => exact absurd hp (by show ¬ _ < 2; simp [MF.pos])
  · cases f with
    | read => exact ⟨zv, nv, .non, av, ev, rfl, h, rfl, .inl rfl, .inl rfl, .inr rfl, .inl rfl, .inl rfl⟩
    | write => exact ⟨zv, nv, .non, av, ev, rfl, h, rfl, .inl rfl, .inl rfl, .inr rfl, .inl rfl, .inl rfl⟩
    | size => exact ⟨zv, nv, .non, av, ev, rfl, h, rfl, .inl rfl, .inl rfl, .inr rfl, .inl rfl, .inl rfl⟩
    | _ => exact absurd hp (by show ¬ _ < 3; simp [MF.pos])
  · cases f with
    | read => exact ⟨zv, nv, bv, .non, ev, rfl, h, rfl, .inl rfl, .inl rfl, .inl rfl, .inr rfl, .inl rfl⟩
    | write => exact ⟨zv, nv, bv, .non, ev, rfl, h, rfl, .inl rfl, .inl rfl, .inl rfl, .inr rfl, .inl rfl⟩
    | size => exact ⟨zv, nv, bv, .non, ev, rfl, h, rfl, .inl rfl, .inl rfl, .inl rfl, .inr rfl, .inl rfl⟩
    | begins f => exact ⟨zv, nv, bv, .non, ev, rfl, h, rfl, .inl rfl, .inl rfl, .inl rfl, .inr rfl, .inl rfl⟩
    | _ => exact absurd hp (by show ¬ _ < 4; simp [MF.pos])
  · cases f with
    | read => exact ⟨zv, nv, bv, av, .non, rfl, h, rfl, .inl rfl, .inl rfl, .inl rfl, .inl rfl, .inr rfl⟩
    | write => exact ⟨zv, nv, bv, av, .non, rfl, h, rfl, .inl rfl, .inl rfl, .inl rfl, .inl rfl, .inr rfl⟩
    | size => exact ⟨zv, nv, bv, av, .non, rfl, h, rfl, .inl rfl, .inl rfl, .inl rfl, .inl rfl, .inr rfl⟩
    | begins f => exact ⟨zv, nv, bv, av, .non, rfl, h, rfl, .inl rfl, .inl rfl, .inl rfl, .inl rfl, .inr rfl⟩
    | arcs f => exact ⟨zv, nv, bv, av, .non, rfl, h, rfl, .inl rfl, .inl rfl, .inl rfl, .inl rfl, .inr rfl⟩
    | _ => exact absurd hp (by show ¬ _ < 5; simp [MF.pos])
/-- spoilt parts and what is due of them -/
def SpD (K : PySem.W.Frag) (a : Addr) (H : Hp) (s d : Addr) : Prop := ∃ (rv zv nv bv av ev : V) (f : MF), H s = some (.lst [rv, zv, nv, bv, av, ev]) ∧ MFAt K H rv zv nv bv av ev f ∧ H d = some (.tup (f.zs rv zv nv)) ∧ Deep a 9 H (.ref s) ∧ ∀ x ∈ f.zs rv zv nv, Deep a 8 H x
theorem Kt.same [Tabl] {H H' : Hp} (s : Same H H') : Kt H H' := ⟨fun _ _ h => s _ _ h, fun _ _ h => s _ _ h⟩
/-- an entry's place in a heap that keeps lists and tuples -/
theorem sIx_nat {n d k : Nat} (h : k ≤ n) : HT.sIx n d (some (k : Int)) = k := by
  unfold HT.sIx
  have h1 : ¬ ((k : Int) < 0) := by omega
  have h2 : min k n = k := Nat.min_eq_left h
  simp [h1, h2]
theorem cut_take {xs : List V} {k : Nat} (h : k ≤ xs.length) : cutV xs none (some (k : Int)) = xs.take k := by
  unfold cutV
  rw [sIx_nat h]
  rfl
/-! a list elsewhere is changed -/
theorem deep_ne {s t : Addr} {n : Nat} {H : Hp} (d : Deep s n H (.ref t)) : t ≠ s := by
  cases n with
  | zero =>
    rcases d with ⟨pl, _⟩ | ⟨p, xs, e, ne, _⟩
    · cases pl
    · cases e; exact ne
  | succ n =>
    rcases d with ⟨pl, _⟩ | ⟨p, xs, e, ne, _⟩
    · cases pl
    · cases e; exact ne
theorem deep_in {s t : Addr} {n : Nat} {H : Hp} {xs : List V} (d : Deep s (n + 1) H (.ref t)) (h : H t = some (.lst xs) ∨ H t = some (.tup xs)) {x : V} (m : x ∈ xs) : Deep s n H x := (deep_ref d h).2 n rfl x m
section
variable [Tabl] {s : Addr} {H H' : Hp} {K : PySem.W.Frag} {v : V} {n : Nat}
theorem shal_put (k : But s H H') (d : Deep s n H v) : Shal H' v := (d.put k d).shal
theorem put_back (k : But s H H') {t : Addr} {xs : List V} (d : Deep s n H (.ref t)) (h : H' t = some (.tup xs)) : H t = some (.tup xs) := by
  obtain ⟨ys, o⟩ := shal_row d.shal
  rcases o with o | o
  · rw [k _ _ (deep_ne d) o] at h
    cases h
  · rw [k _ _ (deep_ne d) o] at h
    cases h
    exact o
theorem inner_put (k : But s H H') (d : Deep s (n + 1) H v) : Inner H' v := fun t xs e ht y hy => by
  subst e
  exact shal_put k (deep_in d (.inr (put_back k d ht)) hy)
theorem rowAt_put (k : But s H H') {p : Addr} {xs : List V} (ne : p ≠ s) (h : Own.RowAt K H p xs) : Own.RowAt K H' p xs := h.imp (k _ _ ne) fun h => h.imp (k _ _ ne) id
theorem FltAt.put {Ok : Hp → V → Prop} (ok : ∀ x m, Deep s m H x → (Ok H' x ↔ Ok H x)) (k : But s H H') (d : Deep s (n + 2) H v) : ∀ {f : Flt}, FltAt K Ok H v f → FltAt K Ok H' v f
  | .shape, h => h
  | .large, ⟨p, xs, e, h, l⟩ => ⟨p, xs, e, rowAt_put k (by subst e; exact deep_ne d) h, l⟩
  | .at j, ⟨p, xs, x, e, h, l, hx, bad, bef⟩ => by
    subst e
    have dx : ∀ y ∈ xs, Deep s (n + 1) H y := fun y m => by
      rcases h with h | h | ⟨rfl, _⟩
      · exact deep_in d (.inl h) m
      · exact deep_in d (.inr h) m
      · cases m
    refine ⟨p, xs, x, rfl, rowAt_put k (deep_ne d) h, l, hx, fun o => bad ((ok x _ (dx x (List.mem_of_getElem? hx))).mp o), fun i y hi hy => ?_⟩
    obtain ⟨b1, b2, b3⟩ := bef i y hi hy
    have dy := dx y (List.mem_of_getElem? hy)
    exact ⟨fun z => (ok y _ dy).mpr (b1 z), shal_put k dy, inner_put k dy⟩
theorem pairV_put {z : Str} {n' : Int} (k : But s H H') (m : Nat) (d : Deep s m H v) : PairV H' z n' v ↔ PairV H z n' v := by
  constructor
  · rintro ⟨t, i, x, rfl, ht, r⟩
    exact ⟨t, i, x, rfl, put_back k d ht, r⟩
  · rintro ⟨t, i, x, rfl, ht, r⟩
    exact ⟨t, i, x, rfl, k _ _ (deep_ne d) ht, r⟩
theorem arcV_put {r z : Str} {n' : Int} (k : But s H H') (m : Nat) (d : Deep s m H v) : ArcV H' r z n' v ↔ ArcV H r z n' v := by
  constructor
  · rintro ⟨t, i, l, x, j, rfl, ht, q⟩
    exact ⟨t, i, l, x, j, rfl, put_back k d ht, q⟩
  · rintro ⟨t, i, l, x, j, rfl, ht, q⟩
    exact ⟨t, i, l, x, j, rfl, k _ _ (deep_ne d) ht, q⟩
theorem RowE.put {α : Type} {img : α → List V} (k : But s H H') {l : Addr} {es : List α} (d : Deep s (n + 1) H (.ref l)) (h : RowE K img H l es) : RowE K img H' l es := by
  obtain ⟨xs, h1, h2, h3⟩ := h
  refine ⟨xs, rowAt_put k (deep_ne d) h1, h2, EntL.of h3.len fun i x e hx he => ?_⟩
  obtain ⟨e', t, he', rfl, ht⟩ := h3.get hx
  rw [he] at he'
  cases he'
  have dx : Deep s n H (.ref t) := by
    rcases h1 with h | h | ⟨rfl, _⟩
    · exact deep_in d (.inl h) (List.mem_of_getElem? hx)
    · exact deep_in d (.inr h) (List.mem_of_getElem? hx)
    · cases hx
  exact ⟨t, rfl, k _ _ (deep_ne dx) ht⟩
theorem MFAt.put {rv zv nv bv av ev : V} (k : But s H H') (d1 : Deep s (n + 2) H rv) (d2 : Deep s (n + 2) H zv) (d3 : Deep s (n + 2) H nv) (d4 : Deep s (n + 2) H bv) (d5 : Deep s (n + 2) H av) (d6 : Deep s (n + 2) H ev) : ∀ {f : MF}, MFAt K H rv zv nv bv av ev f → MFAt K H' rv zv nv bv av ev f
  | .read, ⟨_, b⟩ => ⟨shal_put k d1, b⟩
  | .write, ⟨a, _, b⟩ => ⟨a, shal_put k d2, b⟩
  | .size, ⟨a, c, _, b⟩ => ⟨a, c, shal_put k d3, b⟩
  | .begins f, ⟨r, z, n, b, h⟩ => ⟨r, z, n, b, h.put (fun _ m d => pairV_put k m d) k d4⟩
  | .arcs f, ⟨r, z, n, b, be, h1, h2, h3, h4, h⟩ => ⟨r, z, n, b, be, h1, h2, by subst h2; exact h3.put k d4, h4, h.put (fun _ m d => arcV_put k m d) k d5⟩
  | .ends f, ⟨r, z, n, b, be, a, ae, h1, h2, h3, h4, h5, h6, h7, h⟩ => ⟨r, z, n, b, be, a, ae, h1, h2, by subst h2; exact h3.put k d4, h4, h5, by subst h5; exact h6.put k d5, h7, h.put (fun _ m d => pairV_put k m d) k d6⟩
end
/-- apart from both -/
def D2 (a s : Addr) (n : Nat) (H : Hp) (v : V) : Prop := Deep a n H v ∧ Deep s n H v
theorem D2.le {a s : Addr} {n m : Nat} {H : Hp} {v : V} (h : D2 a s n H v) (l : n ≤ m) : D2 a s m H v := ⟨h.1.le l, h.2.le l⟩
theorem D2.row {a s w : Addr} {n : Nat} {H : Hp} {ys : List V} (h : H w = some (.lst ys) ∨ H w = some (.tup ys)) (na : w ≠ a) (ns : w ≠ s) (l : ys.length ≤ 4000000) (r : ∀ y ∈ ys, D2 a s n H y) : D2 a s (n + 1) H (.ref w) :=
  ⟨.inr ⟨w, ys, rfl, na, h, l, fun y m => (r y m).1⟩, .inr ⟨w, ys, rfl, ns, h, l, fun y m => (r y m).2⟩⟩
theorem D2.but [Tabl] {a s : Addr} {n : Nat} {H H' : Hp} {v : V} (h : D2 a s n H v) (k : But a H H') : D2 a s n H' v := ⟨h.1.but k, h.2.put k h.1⟩
theorem D2.same [Tabl] {a s : Addr} {n : Nat} {H H' : Hp} {v : V} (h : D2 a s n H v) (k : Same H H') : D2 a s n H' v := ⟨h.1.same k, h.2.same k⟩
theorem D2.put [Tabl] {a s : Addr} {n : Nat} {H H' : Hp} {v : V} (h : D2 a s n H v) (k : But s H H') : D2 a s n H' v := ⟨h.1.put k h.2, h.2.but k⟩
theorem D2.str {a s : Addr} {n : Nat} {H : Hp} {x : Str} (l : x.length ≤ 4000000) : D2 a s n H (.str x) := ⟨deep_str l, deep_str l⟩
theorem D2.non {a s : Addr} {n : Nat} {H : Hp} : D2 a s n H .non := ⟨deep_non, deep_non⟩
theorem D2.int {a s : Addr} {n : Nat} {H : Hp} {i : Int} (l : i.natAbs < 2 ^ 13000) : D2 a s n H (.int i) := ⟨deep_int l, deep_int l⟩
/-- spoilt parts, while the store stands at a and the parts at s -/
structure Mid [Tabl] (K : PySem.W.Frag) (a ca s : Addr) (H H' : Hp) (d : Addr) (rv zv nv bv av ev : V) (f : MF) : Prop where
  b : But a H H'
  st : Sto H' a ca
  row : H' s = some (.lst [rv, zv, nv, bv, av, ev])
  mf : MFAt K H' rv zv nv bv av ev f
  due : H' d = some (.tup (f.zs rv zv nv))
  d1 : D2 a s 6 H' rv
  d2 : D2 a s 6 H' zv
  d3 : D2 a s 6 H' nv
  d4 : D2 a s 6 H' bv
  d5 : D2 a s 6 H' av
  d6 : D2 a s 6 H' ev
theorem Mid.but [Tabl] {K : PySem.W.Frag} {a ca s d : Addr} {H H5 H6 : Hp} {rv zv nv bv av ev : V} {f : MF} (M : Mid K a ca s H H5 d rv zv nv bv av ev f) (k : But a H5 H6) (S : Sto H6 a ca) (sa : s ≠ a) : Mid K a ca s H H6 d rv zv nv bv av ev f := by
  have da : d ≠ a := fun e => M.st.ntup _ (by rw [← e]; exact M.due)
  exact ⟨M.b.trans k, S, k _ _ sa M.row, M.mf.put (n := 4) k M.d1.1 M.d2.1 M.d3.1 M.d4.1 M.d5.1 M.d6.1, k _ _ da M.due, M.d1.but k, M.d2.but k, M.d3.but k, M.d4.but k, M.d5.but k, M.d6.but k⟩
/-! ### xs.insert(k, y) -/
def rInsert : V → List V → Hp → VK → Prop := fun x vs H Q => ∃ l xs y, ∃ k : Nat, x = .ref l ∧ vs = [.int (k : Int), y] ∧ H l = some (.lst xs) ∧ k ≤ xs.length ∧ xs.length < sizeLine ∧ k < 2 ^ 62 ∧ Q .non (upd H l (.lst (xs.take k ++ [y] ++ xs.drop k)))
theorem call_list_ofK {X : Cx} (K : PySem.W.Frag) (h : X.K = K) : CallR X (.type "list") (fun xs H Q => ∃ p ys, xs = [V.ref p] ∧ (SqL K H p ys ∨ SqT K H p ys) ∧ ∀ l : Addr, H l = none → Q (.ref l) (upd H l (.lst ys))) := by
  rw [← h]
  exact call_list_of
/-! ### the keys of entries, all of five items -/
def ekeyP (i : Int) (x : Str) : PyData := .tuple [.int i, .str (Str.ofString ""), .int ((x.length : Nat) : Int), .str x, .int 0]
theorem lt_ekeyP (i : Int) (x : Str) (j : Int) (y : Str) : PySem.W.dataLt (ekeyP i x) (ekeyP j y) = PySem.W.dataLt (EnS.pkey i x) (EnS.pkey j y) := by
  unfold ekeyP EnS.pkey
  rw [PySem.W.dataLt_tuple, PySem.W.dataLt_cons (EnS.alike_ii _ _), PySem.W.dataLt_cons (EnS.alike_ss _ _), PySem.W.dataLt_cons (EnS.alike_ii _ _), PySem.W.dataLt_cons (EnS.alike_ss _ _), PySem.W.dataLt_cons (EnS.alike_ii _ _), PySem.W.dataLt_pair (EnS.alike_ii _ _) (EnS.alike_w _ _), EnS.lt_w, PySem.W.dataLt_int, PySem.W.dataLt_int, PySem.W.dataLt_str, PySem.W.dataLt_str]
  by_cases hi : i = j
  · rw [if_pos ((EnS.eqv_ii _ _).mpr hi), if_pos ((EnS.eqv_ii _ _).mpr hi), if_pos ((EnS.eqv_ss _ _).mpr rfl)]
    by_cases hx : x = y
    · subst hx
      rw [if_pos ((EnS.eqv_ii _ _).mpr rfl), if_pos ((EnS.eqv_ss _ _).mpr rfl), if_pos ((EnS.eqv_w _ _).mpr rfl), if_pos ((EnS.eqv_ii _ _).mpr rfl)]
      rfl
    · rw [if_neg (fun z => hx ((EnS.eqv_w _ _).mp z)), if_neg (fun z => hx ((EnS.eqv_ss _ _).mp z))]
      unfold MinQ.kLt
      by_cases h : x.length = y.length
      · rw [if_pos ((EnS.eqv_ii _ _).mpr (by rw [h])), if_pos h]
      · rw [if_neg (fun z => h (by have := (EnS.eqv_ii _ _).mp z; omega)), if_neg h]
        exact decide_eq_decide.mpr (by omega)
  · rw [if_neg (fun z => hi ((EnS.eqv_ii _ _).mp z)), if_neg (fun z => hi ((EnS.eqv_ii _ _).mp z))]
def relE (H : Hp) (v : V) (d : PyData) : Prop := (∃ (t : Addr) (i : Int) (x : Str), v = .ref t ∧ H t = some (.tup [.int i, .str x]) ∧ x.length ≤ 4000000 ∧ d = ekeyP i x) ∨
  ∃ (t : Addr) (i : Int) (l x : Str) (j : Int), v = .ref t ∧ H t = some (.tup [.int i, .str l, .str x, .int j]) ∧ x.length ≤ 4000000 ∧ d = okeyA i l x j
theorem alike_ekeyP (i : Int) (x : Str) (j : Int) (y : Str) : PySem.W.alike (ekeyP i x) (ekeyP j y) = true := by simp [ekeyP, PySem.W.alike, PySem.W.alikeAll]
theorem depth_ekeyP (i : Int) (x : Str) : (ekeyP i x).depth ≤ 16 := by simp [ekeyP, PyData.depth, PyData.depthAll]
structure SortE {α : Type} (img : α → List V) (lt : α → α → Prop) (H : Hp) (xs : List V) (fs : List α) (key : V → PyData) (ds : List α) : Prop where
  rel : ∀ x ∈ xs, relE H x (key x)
  al : PySem.W.AllAlike (xs.map key)
  so : PySem.W.Sortable (xs.map key)
  dp : ∀ x ∈ xs, (key x).depth ≤ 16
  ent : EntL img H (xs.mergeSort (PySem.W.dataLe false key)) ds
  pw : ds.Pairwise lt
  mem : ∀ e, e ∈ ds ↔ e ∈ fs
  len : ds.length = fs.length
theorem SortE.pairs {H : Hp} {xs : List V} {fs : List (Int × Str)} (en : EntL pimg H xs fs) (nd : fs.Nodup) (b : ∀ e ∈ fs, e.2.length ≤ 400) : ∃ key ds, SortE pimg EnS.PLt H xs fs key ds := by
  have dat := fun t e => pdec_at (H := H) t e
  have of : ∀ v ∈ xs, ∃ e t, e ∈ fs ∧ v = .ref t ∧ H t = some (.tup (pimg e)) := fun v hv => by
    obtain ⟨i, hi⟩ := List.getElem?_of_mem hv
    obtain ⟨e, t, he, ev, ht⟩ := en.get hi
    exact ⟨e, t, List.mem_of_getElem? he, ev, ht⟩
  obtain ⟨e1, en2⟩ := en.perm dat (List.mergeSort_perm xs (PySem.W.dataLe false fun v => ekeyP (pdec H v).1 (pdec H v).2))
  have pm := (List.mergeSort_perm xs (PySem.W.dataLe false fun v => ekeyP (pdec H v).1 (pdec H v).2)).map (pdec H)
  rw [← e1] at pm
  refine ⟨fun v => ekeyP (pdec H v).1 (pdec H v).2, _, fun v hv => ?_, fun d hd d' hd' => ?_, .inl fun d hd => ?_, fun v hv => depth_ekeyP _ _, en2, ?_, fun e => pm.mem_iff, pm.length_eq⟩
  · obtain ⟨e, t, he, rfl, ht⟩ := of v hv
    exact .inl ⟨t, e.1, e.2, rfl, ht, Nat.le_trans (b e he) (by decide), by rw [dat t e ht]⟩
  · obtain ⟨v, _, rfl⟩ := List.mem_map.mp hd
    obtain ⟨v', _, rfl⟩ := List.mem_map.mp hd'
    exact alike_ekeyP _ _ _ _
  · obtain ⟨v, _, rfl⟩ := List.mem_map.mp hd
    exact ⟨_, _, rfl⟩
  · have nd2 := pm.nodup_iff.mpr nd
    rw [List.pairwise_map]
    have pw := EnS.sort_pair (fun v => ekeyP (pdec H v).1 (pdec H v).2) xs
    have ne := List.pairwise_map.mp nd2
    refine (pw.and ne).imp fun {a b} h => ?_
    obtain ⟨h1, h2⟩ := h
    rw [lt_ekeyP] at h1
    exact EnS.le_pkey h1 h2
theorem SortE.arcs {H : Hp} {xs : List V} {fs : List EnS.Arc} (en : EntL aimg H xs fs) (nd : fs.Nodup) (b : ∀ e ∈ fs, e.2.2.1.length ≤ 400) : ∃ key ds, SortE aimg EnS.ALt H xs fs key ds := by
  have dat := fun t e => adec_at (H := H) t e
  have of : ∀ v ∈ xs, ∃ e t, e ∈ fs ∧ v = .ref t ∧ H t = some (.tup (aimg e)) := fun v hv => by
    obtain ⟨i, hi⟩ := List.getElem?_of_mem hv
    obtain ⟨e, t, he, ev, ht⟩ := en.get hi
    exact ⟨e, t, List.mem_of_getElem? he, ev, ht⟩
  obtain ⟨e1, en2⟩ := en.perm dat (List.mergeSort_perm xs (PySem.W.dataLe false fun v => okeyA (adec H v).1 (adec H v).2.1 (adec H v).2.2.1 (adec H v).2.2.2))
  have pm := (List.mergeSort_perm xs (PySem.W.dataLe false fun v => okeyA (adec H v).1 (adec H v).2.1 (adec H v).2.2.1 (adec H v).2.2.2)).map (adec H)
  rw [← e1] at pm
  refine ⟨fun v => okeyA (adec H v).1 (adec H v).2.1 (adec H v).2.2.1 (adec H v).2.2.2, _, fun v hv => ?_, fun d hd d' hd' => ?_, .inl fun d hd => ?_, fun v hv => depth_okeyA _ _ _ _, en2, ?_, fun e => pm.mem_iff, pm.length_eq⟩
  · obtain ⟨e, t, he, rfl, ht⟩ := of v hv
    exact .inr ⟨t, e.1, e.2.1, e.2.2.1, e.2.2.2, rfl, ht, Nat.le_trans (b e he) (by decide), by rw [dat t e ht]⟩
  · obtain ⟨v, _, rfl⟩ := List.mem_map.mp hd
    obtain ⟨v', _, rfl⟩ := List.mem_map.mp hd'
    exact alike_okeyA _ _ _ _ _ _ _ _
  · obtain ⟨v, _, rfl⟩ := List.mem_map.mp hd
    exact ⟨_, _, rfl⟩
  · have nd2 := pm.nodup_iff.mpr nd
    rw [List.pairwise_map]
    have pw := EnS.sort_pair (fun v => okeyA (adec H v).1 (adec H v).2.1 (adec H v).2.2.1 (adec H v).2.2.2) xs
    have ne := List.pairwise_map.mp nd2
    refine (pw.and ne).imp fun {a b} h => ?_
    obtain ⟨h1, h2⟩ := h
    rw [lt_okeyA] at h1
    exact EnS.le_akey h1 h2
def shW (x : Str) : Str := if x = Str.ofString "" then Str.ofString "-" else x
def shI (i : Int) : Str := toString i
structure TextRows (H : Hp) (xs : List V) (rows : List (List Str)) : Prop where
  len : xs.length = rows.length
  get : ∀ (i : Nat) (ws : List Str), rows[i]? = some ws → ∃ d : Addr, xs[i]? = some (V.ref d) ∧ H d = some (.lst (ws.map V.str))
theorem TextRows.same [Tabl] {H H' : Hp} {xs : List V} {rows : List (List Str)} (h : TextRows H xs rows) (s : Same H H') : TextRows H' xs rows := ⟨h.len, fun i ws e => let ⟨d, e1, e2⟩ := h.get i ws e; ⟨d, e1, s _ _ e2⟩⟩
theorem TextRows.push {H : Hp} {xs : List V} {rows : List (List Str)} {W d : Addr} {ws : List Str} (h : TextRows H xs rows) (ne : 0 < rows.length) (hW : H W = some (.lst xs)) (dW : d ≠ W) (hd : H d = some (.lst (ws.map V.str))) :
    TextRows (upd H W (.lst (xs ++ [.ref d]))) (xs ++ [.ref d]) (rows ++ [ws]) := by
  refine ⟨by rw [List.length_append, List.length_append, h.len]; rfl, fun i us e => ?_⟩
  by_cases il : i < rows.length
  · rw [List.getElem?_append_left il] at e
    obtain ⟨c, e1, e2⟩ := h.get i us e
    have cW : c ≠ W := fun z => by
      subst z
      rw [hW] at e2
      have e2 : xs = us.map V.str := by injection Option.some.inj e2
      obtain ⟨c0, f1, _⟩ := h.get 0 _ (List.getElem?_eq_getElem ne)
      rw [e2, List.getElem?_map] at f1
      cases k : us[0]? with
      | none => rw [k] at f1; cases f1
      | some y => rw [k] at f1; cases f1
    exact ⟨c, by rw [List.getElem?_append_left (by rw [h.len]; exact il)]; exact e1, by rw [upd_ne cW]; exact e2⟩
  · have ie : i = rows.length := by
      have := (List.getElem?_eq_some_iff.mp e).1
      rw [List.length_append] at this
      have : i < rows.length + 1 := this
      omega
    subst ie
    rw [List.getElem?_append_right (Nat.le_refl _), Nat.sub_self] at e
    have e : ws = us := Option.some.inj e
    subst e
    exact ⟨d, by rw [← h.len, List.getElem?_append_right (Nat.le_refl _), Nat.sub_self]; rfl, by rw [upd_ne dW]; exact hd⟩
theorem TextRows.one {H : Hp} {d : Addr} {ws : List Str} (hd : H d = some (.lst (ws.map V.str))) : TextRows H [.ref d] [ws] := ⟨rfl, fun i us e => by
  cases i with
  | zero => cases e; exact ⟨d, rfl, hd⟩
  | succ i => cases e⟩
def mrow (r z : Str) (n : Int) : List Str := [Str.ofString "machine", r, z, shI n]
def prow (w : Str) (e : Int × Str) : List Str := [w, shI e.1, shW e.2]
def arow (e : EnS.Arc) : List Str := [Str.ofString "arc", shI e.1, e.2.1, shW e.2.2.1, shI e.2.2.2]
def mvI (os : List Int) (i : Int) : Int := (os[i.toNat]?).getD 0
def mvP (os : List Int) (e : Int × Str) : Int × Str := (mvI os e.1, e.2)
def mvA (os : List Int) (e : EnS.Arc) : EnS.Arc := (mvI os e.1, e.2.1, e.2.2.1, mvI os e.2.2.2)
/-- what TooLarge tells -/
def big_fs (what : Str) (lim : Int) : List (Str × V) := [("limit", .int lim), ("what", .str what)]
/-- as FunC.ok, for a def that may raise -/
theorem FunC.okX {P : Program} {w : World} {K : PySem.W.Frag} {mg : Str → Option Value} {base : Heap} {x qual : Str} {st : Stmt} {f c : Addr} {fd : FuncData} {N ps : List Str} {k : Nat} {sp : Sp} (F : FunC K x qual st f fd c) (S : FnScope N ps (defScope st)) (len : ∀ vs H Q E, sp vs H Q E → vs.length = ps.length)
    (body : ∀ (A : Around) (outer : List Env) (s : Shared) (H : Hp) (vs : List V) (Q : VK) (E : XK), Room k (A.deeper (envOfC qual (defScope st) s.heap.objs.size f (.ref c))) → sp vs H Q E → ∃ t, PSs (cxOf (L2.CX P w) P w K mg base N qual (defScope st) f (.ref c) A outer s H E) (defBody st) t ∧ t { nx := fun _ H' => Q .non H', rt := Q } (start N vs) H) :
    FnOk P w K mg base (L2.CX P w) (k + 1) f fd ps sp := by
  obtain ⟨⟨⟨_, _, _, _, _, _, cdv, _, _, e, l, cd⟩, _⟩, code⟩ := F
  rw [e] at code
  have ec : cdv = .ref c := code
  rw [e] at l ⊢
  rw [ec] at l cd ⊢
  exact fn_of l cd S len fun A outer s H vs Q E hr hs => body A outer s H vs Q E hr hs
end Lb

namespace Lb
open PySem PySem.Spec PyProof.Rows L2
theorem ixN_at {n k : Nat} (h : k < n) : ixN n (k : Int) = some k := by
  unfold ixN
  rw [if_pos (by omega), if_pos (by omega), Int.toNat_natCast]
/-- numbers that were met -/
def seenK (ks : List Int) : List (L2.Key × V) := ks.map fun i => (Sum.inl i, V.bl true)
/-- an order of the numbers below n -/
structure IsOrd (os : List Int) (n : Nat) : Prop where
  len : os.length = n
  low : ∀ i ∈ os, 0 ≤ i ∧ i ≤ (n : Int) - 1
  nd : os.Nodup
theorem GoodM.moved {r z : Str} {n : Nat} {bd : List (Int × Str)} {ad : List EnS.Arc} {ed : List (Int × Str)} {os : List Int} (g : GoodM r z n bd ad ed) (o : IsOrd os n) : GoodM r z n (bd.map (mvP os)) (ad.map (mvA os)) (ed.map (mvP os)) := by
  have at_ : ∀ i : Int, 0 ≤ i → i ≤ (n : Int) - 1 → 0 ≤ mvI os i ∧ mvI os i ≤ (n : Int) - 1 := fun i h0 h1 => by
    obtain ⟨k, rfl⟩ := Int.eq_ofNat_of_zero_le h0
    have lk : k < os.length := by rw [o.len]; omega
    unfold mvI
    rw [Int.toNat_natCast, List.getElem?_eq_getElem lk]
    exact o.low _ (List.getElem_mem lk)
  have gp : ∀ ds : List (Int × Str), (∀ e ∈ ds, GoodP z n e) → ∀ e ∈ ds.map (mvP os), GoodP z n e := fun ds h e m => by
    obtain ⟨x, mx, rfl⟩ := List.mem_map.mp m
    obtain ⟨h1, h2, h3, h4⟩ := h x mx
    exact ⟨(at_ _ h1 h2).1, (at_ _ h1 h2).2, h3, h4⟩
  refine ⟨g.ar, g.az, g.n0, g.n64, gp _ g.gb, fun e m => ?_, gp _ g.ge⟩
  obtain ⟨x, mx, rfl⟩ := List.mem_map.mp m
  obtain ⟨h1, h2, h3, h4, h5, h6, h7, h8⟩ := g.ga x mx
  exact ⟨(at_ _ h1 h2).1, (at_ _ h1 h2).2, h3, h4, h5, h6, (at_ _ h7 h8).1, (at_ _ h7 h8).2⟩
/-- what is wrong with an order -/
def OrdFlt (H : Hp) (v : V) (n : Nat) : Flt → Prop
  | .shape => Shal H v ∧ ∀ p xs, v = .ref p → H p = some (.lst xs) → xs.length ≠ n ∧ xs.length ≤ 4000000
  | .large => False
  | .at k => ∃ (p : Addr) (xs : List V) (ks : List Int) (x : V), v = .ref p ∧ H p = some (.lst xs) ∧ xs.length = n ∧ xs.take k = ks.map V.int ∧ (∀ i ∈ ks, 0 ≤ i ∧ i ≤ (n : Int) - 1) ∧ ks.Nodup ∧ xs[k]? = some x ∧ Shal H x ∧ (inR x 0 ((n : Int) - 1) = false ∨ ∃ i, x = .int i ∧ 0 ≤ i ∧ i ≤ (n : Int) - 1 ∧ i ∈ ks)
/-- what the error tells -/
def dueO : Flt → List V
  | .at k => [.str (Str.ofString "BadEntry"), .str (Str.ofString "order"), .int (k : Nat)]
  | _ => [.str (Str.ofString "BadEntry"), .str (Str.ofString "order"), .non]
/-- isinstance(e, (c1, c2, ..)), e the error that the suite holds -/
def rIsDT (K : PySem.W.Frag) (a : Addr) (cls : Value) (d : Option Addr) : List V → Hp → VK → Prop := fun xs H Q =>
  ∃ (D tp : Addr) (cs : List V) (us : List Value) (b : Bool), cls = .ref D ∧ ExcC K D ∧ xs = [.ref a, .ref tp] ∧ H tp = some (.tup cs) ∧ Paired ClsV cs us ∧ (∀ dd, d = some dd → ∃ fs, H dd = some (.xd fs)) ∧ PySem.W.kitAny K (.ref D) us = some b ∧ Q (.bl b) H
theorem call_isDT {X : Cx} {a : Addr} {cls : Value} {d : Option Addr} {oe : Obj} {pn : List (Addr × Obj)} (hz : Zc cls d oe) (hf : ∃ vs, oe.data = .fields vs) : CallR (X.suite a ((a, oe) :: pn)) (.builtin "isinstance") (rIsDT X.K a cls d) := by
  intro pins s σ H xs us Q I r h
  obtain ⟨D, tp, cs, ws, b, rfl, C, rfl, hT, k, dict, e, q⟩ := h
  obtain ⟨u1, u2, rfl, r1, r2⟩ := vals2 r
  cases r1
  cases (show u2 = Value.ref tp from r2)
  obtain ⟨at_, _⟩ := I.pin (a, oe) (List.mem_append_left _ List.mem_cons_self)
  obtain ⟨vs, data⟩ := hf
  obtain ⟨od, J⟩ : ∃ od, PySem.W.InstAt s.heap a oe D od := by
    have no : PySem.W.notCls oe = true := by
      unfold PySem.W.notCls
      rw [data] <;> rfl
    cases d with
    | none => exact ⟨none, at_, hz.1, no, by rw [hz.2]; trivial⟩
    | some dd =>
      obtain ⟨fs, hd⟩ := dict dd rfl
      obtain ⟨mA, ns, _⟩ := (show ObjOk X.prog X.w H s.heap dd (.xd fs) from I.hok dd _ hd)
      obtain ⟨od, ho, _⟩ := lookIn_ns ns
      exact ⟨some od, at_, hz.1, no, by rw [hz.2]; exact ho⟩
  have some_ : (PySem.W.clsIn X.K D).isSome = true := by
    obtain ⟨cd, hc, _⟩ := PySem.W.any_some C.hd
    rw [hc]
    rfl
  obtain ⟨_, its, rv, o, h1, h2, n, h3⟩ := (show ObjOk X.prog X.w H s.heap tp (.tup cs) from I.hok tp _ hT)
  have e3 := ClsV.all k rv
  subst e3
  obtain ⟨oc, od', dt, sl⟩ := o
  simp only at h2 h3
  subst h2 h3
  exact PySem.W.kia_tup (PySem.W.kitx_exc some_ C.hg C.hk C.hs C.ha C.hn C.ht C.hm) I.kIn J h1 e (fun z => nomatch z) fun tk => ⟨.bl b, H, I.kept (t' := tk) fun _ _ z => z, rfl, q⟩
theorem any_no {K : PySem.W.Frag} {t c : Value} {cs : List Value} (h : PySem.W.kitOne K t c = some false) (k : PySem.W.kitAny K t cs = some false) : PySem.W.kitAny K t (c :: cs) = some false := kitAny_cons h (fun _ => k) (fun z => by cases z)
theorem any_end {K : PySem.W.Frag} {t : Value} : PySem.W.kitAny K t [] = some false := rfl
theorem SameD.shal {H : Hp} {n : Nat} {u v : V} (h : SameD n H u v) (s : Shal H v) : Shal H u := by
  have key : ∀ rel, SameR rel H u v → Shal H u := by
    rintro rel (⟨rfl, _⟩ | ⟨p, q, xs, ys, rfl, rfl, o, _⟩)
    · exact s
    · exact .inr (.inr (.inr (.inr ⟨p, xs, rfl, o.elim (fun z => .inr z.1) fun z => .inl z.1⟩)))
  cases n with
  | zero => exact key _ h
  | succ n => exact key _ h
theorem OrdFlt.same [Tabl] {H H2 : Hp} {v : V} {n : Nat} {f : Flt} (h : OrdFlt H v n f) (s : Same H H2) : OrdFlt H2 v n f := by
  cases f with
  | large => exact h
  | shape =>
    obtain ⟨sh, ne⟩ := h
    refine ⟨sh.same s, fun p xs e hp => ?_⟩
    subst e
    obtain ⟨zs, hz | hz⟩ := shal_row sh
    · rw [s _ _ hz] at hp
      cases hp
      exact ne p _ rfl hz
    · rw [s _ _ hz] at hp
      cases hp
  | «at» j =>
    obtain ⟨p, xs, ks, x, e, hp, lx, tk, low, nd, hx, sx, bad⟩ := h
    exact ⟨p, xs, ks, x, e, s _ _ hp, lx, tk, low, nd, hx, sx.same s, bad⟩
def lineM (r z : Str) (n : Int) : Str := Str.empty ++ Str.ofString "machine " ++ r ++ Str.ofString " " ++ z ++ Str.ofString " " ++ shI n
def lineP (w : Str) (e : Int × Str) : Str := Str.empty ++ w ++ shI e.1 ++ Str.ofString " " ++ shW e.2
def lineA (e : EnS.Arc) : Str := Str.empty ++ Str.ofString "arc " ++ shI e.1 ++ Str.ofString " " ++ e.2.1 ++ Str.ofString " " ++ shW e.2.2.1 ++ Str.ofString " " ++ shI e.2.2.2
def textM (r z : Str) (n : Int) (bd : List (Int × Str)) (ad : List EnS.Arc) (ed : List (Int × Str)) : Str := Txt.join (Str.ofString "\n") (([lineM r z n] ++ bd.map (lineP (Str.ofString "begin ")) ++ ad.map lineA) ++ ed.map (lineP (Str.ofString "end ")))
def rowsM (r z : Str) (n : Int) (bd : List (Int × Str)) (ad : List EnS.Arc) (ed : List (Int × Str)) : List (List Str) := ([mrow r z n] ++ bd.map (prow (Str.ofString "begin")) ++ ad.map arow) ++ ed.map (prow (Str.ofString "end"))
/-! ### an order and its inverse -/
theorem IsOrd.mem {os : List Int} {n : Nat} (o : IsOrd os n) {k : Nat} (h : k < n) : (k : Int) ∈ os := Classical.byContradiction fun no => by
  have nd : (k :: os.map Int.toNat).Nodup := by
    refine List.nodup_cons.mpr ⟨fun m => ?_, ?_⟩
    · obtain ⟨i, mi, e⟩ := List.mem_map.mp m
      have := o.low i mi
      exact no (by rw [← e, Int.toNat_of_nonneg this.1]; exact mi)
    · refine List.pairwise_map.mpr (List.Pairwise.imp_of_mem (R := fun a b => a ≠ b) (fun {a b} ma mb ne e => ne ?_) o.nd)
      have h1 := o.low a ma
      have h2 := o.low b mb
      omega
  have := nodup_len (k :: os.map Int.toNat) (List.range n) nd fun x m => by
    rcases List.mem_cons.mp m with rfl | m
    · exact List.mem_range.mpr h
    · obtain ⟨i, mi, rfl⟩ := List.mem_map.mp m
      have := o.low i mi
      exact List.mem_range.mpr (by omega)
  rw [List.length_cons, List.length_map, List.length_range, o.len] at this
  omega
def invO (os : List Int) (n : Nat) : List Int := (List.range n).map fun (k : Nat) => ((os.idxOf ((k : Nat) : Int) : Nat) : Int)
theorem IsOrd.at {os : List Int} {n : Nat} (o : IsOrd os n) {k : Nat} (h : k < n) : os[os.idxOf (k : Int)]? = some (k : Int) := by
  have l := List.idxOf_lt_length_of_mem (o.mem h)
  rw [List.getElem?_eq_getElem l, List.getElem_idxOf l]
theorem IsOrd.first {os : List Int} {n : Nat} (o : IsOrd os n) {k m : Nat} (h : k < n) (lt : m < os.idxOf (k : Int)) : os[m]? ≠ some (k : Int) := fun e => by
  have l := List.idxOf_lt_length_of_mem (o.mem h)
  have lm := (List.getElem?_eq_some_iff.mp e).1
  have := (List.getElem_inj (h₀ := lm) (h₁ := l) o.nd).mp ((List.getElem?_eq_some_iff.mp e).2.trans (List.getElem_idxOf l).symm)
  omega
theorem IsOrd.inv {os : List Int} {n : Nat} (o : IsOrd os n) : IsOrd (invO os n) n := by
  refine ⟨by unfold invO; rw [List.length_map, List.length_range], fun i m => ?_, ?_⟩
  · obtain ⟨k, mk, rfl⟩ := List.mem_map.mp m
    have := List.idxOf_lt_length_of_mem (o.mem (List.mem_range.mp mk))
    have := o.len
    omega
  · refine List.pairwise_map.mpr (List.Pairwise.imp_of_mem (R := fun a b => a ≠ b) (fun {a b} ma mb ne e => ne ?_) List.nodup_range)
    have h1 := o.at (List.mem_range.mp ma)
    have h2 := o.at (List.mem_range.mp mb)
    have e' : os.idxOf (a : Int) = os.idxOf (b : Int) := by omega
    rw [e', h2] at h1
    have := Option.some.inj h1
    omega
theorem IsOrd.back {os : List Int} {n : Nat} (o : IsOrd os n) {i : Int} (h0 : 0 ≤ i) (h1 : i ≤ (n : Int) - 1) : mvI (invO os n) (mvI os i) = i := by
  obtain ⟨k, rfl⟩ := Int.eq_ofNat_of_zero_le h0
  have lk : k < os.length := by rw [o.len]; omega
  have e1 : mvI os (k : Int) = os[k] := by
    unfold mvI
    rw [Int.toNat_natCast, List.getElem?_eq_getElem lk]
    rfl
  have lw := o.low _ (List.getElem_mem lk)
  obtain ⟨j, hj⟩ := Int.eq_ofNat_of_zero_le lw.1
  have jn : j < n := by omega
  rw [e1, hj]
  unfold mvI invO
  rw [Int.toNat_natCast, List.getElem?_map, List.getElem?_range jn]
  show ((os.idxOf (j : Int) : Nat) : Int) = (k : Int)
  have l := List.idxOf_lt_length_of_mem (o.mem jn)
  have := (List.getElem_inj (h₀ := l) (h₁ := lk) o.nd).mp ((List.getElem_idxOf l).trans hj.symm)
  rw [this]
/-! ### places of whole numbers in a list -/
/-- l.index(i), a list of whole numbers -/
def rIdxI (K : PySem.W.Frag) : V → List V → Hp → VK → Prop := fun x xs H Q => ∃ (a : Addr) (i : Int) (ns : List Int) (j : Nat), x = V.ref a ∧ xs = [.int i] ∧ SqL K H a (ns.map V.int) ∧ ns[j]? = some i ∧ (∀ m, m < j → ns[m]? ≠ some i) ∧ Q (.int (j : Nat)) H
theorem pe_bmK {X : Cx} (K : PySem.W.Frag) (hK : X.K = K) {T : String} {id : String} {name : Str} {r : V → List V → Hp → VK → Prop} {o e : Expr} {es : List Expr} {to : TE} {t : TA} {apos cpos : Pos} (pa : PlainAttrs T) (slot : Slot T name id) (hty : typeOf (.builtin id) = pure (.type "method_descriptor")) (hm : MtR X id r) (ho : PE X o to) (ha : PA X (e :: es) t)
    (hbase : attributeBase o name X.env (eval o X.env) = eval o X.env := by rfl)
    (hfew : ((backTo cpos (starEach (e :: es) X.env)).all (fun x => !x.1) && (backToKw cpos (keywordEach [] X.env)).all (fun x => x.1.isSome)
      && decide ((e :: es).length + ([] : List Keyword).length + (if ([] : List Keyword).isEmpty then 0 else 1) < 30)) = true := by rfl)
    (hline : (apos.endLine == cpos.line) = true := by rfl) (hs : starEach (e :: es) X.env = (false, eval e X.env) :: starEach es X.env := by rfl) (hplain : (backTo cpos (starEach es X.env)).any (·.1) = false := by rfl) :
    PE X (.Call (.Attribute o name apos) (e :: es) [] cpos) (tBM K T r to t) := by
  rw [← hK]
  exact pe_bm pa slot hty hm ho ha hbase hfew hline hs hplain
/-- the drawn parts of a machine, in a tuple -/
structure PT (a : Addr) (H : Hp) (p : Addr) (r z : Str) (n : Nat) (be : List (Int × Str)) (ae : List EnS.Arc) (ee : List (Int × Str)) (b c e : Addr) (bx ax ex : List V) : Prop where
  g : GoodM r z n be ae ee
  hp : H p = some (.tup [.str r, .str z, .int n, .ref b, .ref c, .ref e])
  hb : H b = some (.lst bx)
  hc : H c = some (.lst ax)
  he : H e = some (.lst ex)
  lb : bx.length ≤ 400
  la : ax.length ≤ 400
  le : ex.length ≤ 400
  eb : EntL pimg H bx be
  ea : EntL aimg H ax ae
  ee' : EntL pimg H ex ee
  pa : p ≠ a
  ba : b ≠ a
  ca : c ≠ a
  na : e ≠ a
section
variable {a p b c e : Addr} {H H' : Hp} {r z : Str} {n : Nat} {be : List (Int × Str)} {ae : List EnS.Arc} {ee : List (Int × Str)} {bx ax ex : List V}
theorem PT.but [Tabl] {s : Addr} (h : PT a H p r z n be ae ee b c e bx ax ex) (k : But a H H') (S : Sto H a s) : PT a H' p r z n be ae ee b c e bx ax ex :=
  ⟨h.g, k _ _ h.pa h.hp, k _ _ h.ba h.hb, k _ _ h.ca h.hc, k _ _ h.na h.he, h.lb, h.la, h.le, h.eb.butN k S.ntup, h.ea.butN k S.ntup, h.ee'.butN k S.ntup, h.pa, h.ba, h.ca, h.na⟩
theorem PT.same [Tabl] (h : PT a H p r z n be ae ee b c e bx ax ex) (k : Same H H') : PT a H' p r z n be ae ee b c e bx ax ex :=
  ⟨h.g, k _ _ h.hp, k _ _ h.hb, k _ _ h.hc, k _ _ h.he, h.lb, h.la, h.le, h.eb.same k, h.ea.same k, h.ee'.same k, h.pa, h.ba, h.ca, h.na⟩
end
theorem Srt.refl {α : Type} {lt : α → α → Prop} {ds es : List α} (h : Srt lt ds es) : Srt lt ds ds := ⟨h.pw, fun _ => Iff.rfl, Nat.le_refl _, h.l4⟩
/-- one order behind the other -/
def compO (os qs : List Int) (n : Nat) : List Int := (List.range n).map fun (k : Nat) => mvI qs (mvI os (k : Int))
theorem IsOrd.at_ {os : List Int} {n : Nat} (o : IsOrd os n) {i : Int} (h0 : 0 ≤ i) (h1 : i ≤ (n : Int) - 1) : 0 ≤ mvI os i ∧ mvI os i ≤ (n : Int) - 1 := by
  obtain ⟨k, rfl⟩ := Int.eq_ofNat_of_zero_le h0
  have lk : k < os.length := by rw [o.len]; omega
  unfold mvI
  rw [Int.toNat_natCast, List.getElem?_eq_getElem lk]
  exact o.low _ (List.getElem_mem lk)
theorem compO_at {os qs : List Int} {n : Nat} {i : Int} (h0 : 0 ≤ i) (h1 : i ≤ (n : Int) - 1) : mvI (compO os qs n) i = mvI qs (mvI os i) := by
  obtain ⟨k, rfl⟩ := Int.eq_ofNat_of_zero_le h0
  have lk : k < n := by omega
  show ((compO os qs n)[((k : Nat) : Int).toNat]?).getD 0 = _
  unfold compO
  rw [Int.toNat_natCast, List.getElem?_map, List.getElem?_range lk]
  rfl
theorem IsOrd.mapP {os qs : List Int} {n : Nat} {z : Str} (ds : List (Int × Str)) (h : ∀ e ∈ ds, GoodP z n e) : (ds.map (mvP os)).map (mvP qs) = ds.map (mvP (compO os qs n)) := by
  rw [List.map_map]
  exact List.map_congr_left fun x mx => Prod.ext (compO_at (h x mx).1 (h x mx).2.1).symm rfl
/-! ### the ways to an end -/
theorem mvI_set {fs : List Int} {k : Nat} {v i : Int} (h : k < fs.length) (h0 : 0 ≤ i) : mvI (fs.set k v) i = if i = (k : Int) then v else mvI fs i := by
  obtain ⟨j, rfl⟩ := Int.eq_ofNat_of_zero_le h0
  unfold mvI
  rw [Int.toNat_natCast, List.getElem?_set]
  by_cases e : k = j
  · subst e
    rw [if_pos rfl, if_pos h, if_pos rfl]
    rfl
  · rw [if_neg e, if_neg (by omega)]
/-- for each state a number: 0 where an end is; else an arc leads to a lesser one, but for 1000 -/
structure FarOk (n : Nat) (ae : List EnS.Arc) (ee : List (Int × Str)) (fs : List Int) : Prop where
  len : fs.length = n
  low : ∀ s : Int, 0 ≤ s → s < (n : Int) → 0 ≤ mvI fs s
  zero : ∀ s : Int, 0 ≤ s → s < (n : Int) → mvI fs s = 0 → ∃ x ∈ ee, x.1 = s
  more : ∀ s : Int, 0 ≤ s → s < (n : Int) → 0 < mvI fs s → mvI fs s < 1000 → ∃ x ∈ ae, x.1 = s ∧ 0 ≤ x.2.2.2 ∧ x.2.2.2 < (n : Int) ∧ mvI fs x.2.2.2 < mvI fs s
theorem FarOk.start {n : Nat} {ae : List EnS.Arc} {ee : List (Int × Str)} : FarOk n ae ee (List.replicate n 1000) := by
  have h : ∀ s : Int, 0 ≤ s → s < (n : Int) → mvI (List.replicate n (1000 : Int)) s = 1000 := fun s h0 h1 => by
    obtain ⟨j, rfl⟩ := Int.eq_ofNat_of_zero_le h0
    unfold mvI
    rw [Int.toNat_natCast, List.getElem?_replicate, if_pos (by omega)]
    rfl
  refine ⟨List.length_replicate, fun s h0 h1 => by rw [h s h0 h1]; decide, fun s h0 h1 e => ?_, fun s h0 h1 _ e => ?_⟩
  · rw [h s h0 h1] at e; omega
  · rw [h s h0 h1] at e; omega
theorem FarOk.stop {n : Nat} {ae : List EnS.Arc} {ee : List (Int × Str)} {fs : List Int} (h : FarOk n ae ee fs) {x : Int × Str} (m : x ∈ ee) {k : Nat} (e : x.1 = (k : Int)) (lt : k < n) : FarOk n ae ee (fs.set k 0) := by
  have lk : k < fs.length := by rw [h.len]; exact lt
  have le : ∀ s : Int, 0 ≤ s → s < (n : Int) → mvI (fs.set k 0) s ≤ mvI fs s := fun s h0 h1 => by
    rw [mvI_set lk h0]
    split
    · exact h.low s h0 h1
    · exact Int.le_refl _
  refine ⟨by rw [List.length_set]; exact h.len, fun s h0 h1 => ?_, fun s h0 h1 e0 => ?_, fun s h0 h1 e0 e1 => ?_⟩
  · rw [mvI_set lk h0]
    split
    · exact Int.le_refl _
    · exact h.low s h0 h1
  · rw [mvI_set lk h0] at e0
    split at e0
    · rename_i q; exact ⟨x, m, by rw [e, q]⟩
    · exact h.zero s h0 h1 e0
  · have e2 := e0
    rw [mvI_set lk h0] at e2
    split at e2
    · omega
    · rename_i q
      have e3 : mvI (fs.set k 0) s = mvI fs s := by rw [mvI_set lk h0, if_neg q]
      rw [e3] at e0 e1 ⊢
      obtain ⟨y, my, y1, r0, r1, y2⟩ := h.more s h0 h1 e0 e1
      have := le _ r0 r1
      exact ⟨y, my, y1, r0, r1, by omega⟩
theorem EntL.mem {α : Type} {img : α → List V} {H : Hp} {xs : List V} {es : List α} (h : EntL img H xs es) {x : V} (m : x ∈ xs) : ∃ e t, e ∈ es ∧ x = .ref t ∧ H t = some (.tup (img e)) := by
  obtain ⟨i, hi⟩ := List.getElem?_of_mem m
  obtain ⟨e, t, he, ev, ht⟩ := h.get hi
  exact ⟨e, t, List.mem_of_getElem? he, ev, ht⟩
/-- a way along arcs -/
def WalkA (ae : List EnS.Arc) : Int → List EnS.Arc → Int → Prop
  | s, [], t => s = t
  | s, e :: p, t => e ∈ ae ∧ e.1 = s ∧ WalkA ae e.2.2.2 p t
theorem WalkA.snoc {ae : List EnS.Arc} : ∀ {s : Int} {p : List EnS.Arc} {t : Int} {e : EnS.Arc}, WalkA ae s p t → e ∈ ae → e.1 = t → WalkA ae s (p ++ [e]) e.2.2.2
  | _, [], _, _, h, m, q => ⟨m, q.trans h.symm, rfl⟩
  | _, _ :: _, _, _, ⟨h1, h2, h3⟩, m, q => ⟨h1, h2, h3.snoc m q⟩
theorem WalkA.mem {ae : List EnS.Arc} : ∀ {s : Int} {p : List EnS.Arc} {t : Int}, WalkA ae s p t → ∀ e ∈ p, e ∈ ae
  | _, [], _, _, e, m => absurd m List.not_mem_nil
  | _, _ :: _, _, ⟨h1, _, h3⟩, e, m => (List.mem_cons.mp m).elim (fun q => by rw [q]; exact h1) (h3.mem e)
/-- a drawn course -/
structure CourseAt (H : Hp) (t : Addr) (be : List (Int × Str)) (ae : List EnS.Arc) (ee : List (Int × Str)) (hd pl st : Addr) (vs : List V) (h : Int × Str) (path : List EnS.Arc) (w : Int × Str) : Prop where
  ht : H t = some (.tup [.ref hd, .ref pl, .ref st])
  hh : H hd = some (.tup (pimg h))
  hp : H pl = some (.lst vs)
  hs : H st = some (.tup (pimg w))
  en : EntL aimg H vs path
  mh : h ∈ be
  mw : w ∈ ee
  wk : WalkA ae h.1 path w.1
theorem CourseAt.same [Tabl] {H H' : Hp} {t : Addr} {be : List (Int × Str)} {ae : List EnS.Arc} {ee : List (Int × Str)} {hd pl st : Addr} {vs : List V} {h : Int × Str} {path : List EnS.Arc} {w : Int × Str} (c : CourseAt H t be ae ee hd pl st vs h path w) (s : Same H H') : CourseAt H' t be ae ee hd pl st vs h path w :=
  ⟨s _ _ c.ht, s _ _ c.hh, s _ _ c.hp, s _ _ c.hs, c.en.same s, c.mh, c.mw, c.wk⟩
theorem CourseAt.but [Tabl] {a ca : Addr} {H H' : Hp} {t : Addr} {be : List (Int × Str)} {ae : List EnS.Arc} {ee : List (Int × Str)} {hd pl st : Addr} {vs : List V} {h : Int × Str} {path : List EnS.Arc} {w : Int × Str} (c : CourseAt H t be ae ee hd pl st vs h path w) (k : But a H H') (S : Sto H a ca) (pa : pl ≠ a) : CourseAt H' t be ae ee hd pl st vs h path w := by
  have nt : ∀ b xs, H b = some (.tup xs) → b ≠ a := fun b xs q e => S.ntup xs (by rw [← e]; exact q)
  exact ⟨k _ _ (nt _ _ c.ht) c.ht, k _ _ (nt _ _ c.hh) c.hh, k _ _ pa c.hp, k _ _ (nt _ _ c.hs) c.hs, c.en.butN k S.ntup, c.mh, c.mw, c.wk⟩
/-- a test told by what it may answer -/
theorem tt_spec {t : TT} {σ : L2.St} {H : Hp} {Q : Bool → Hp → Prop} (R : Bool → Hp → Prop) (h : ∀ Q' : Bool → Hp → Prop, (∀ b H', R b H' → Q' b H') → t σ H Q') (k : ∀ b H', R b H' → Q b H') : t σ H Q := h Q k
theorem GoodP.up {z : Str} {n m : Int} {e : Int × Str} (h : GoodP z n e) (k : n ≤ m) : GoodP z m e := ⟨h.1, by have := h.2.1; omega, h.2.2.1, h.2.2.2⟩
theorem GoodA.up {r z : Str} {n m : Int} {e : EnS.Arc} (h : GoodA r z n e) (k : n ≤ m) : GoodA r z m e := ⟨h.1, by have := h.2.1; omega, h.2.2.1, h.2.2.2.1, h.2.2.2.2.1, h.2.2.2.2.2.1, h.2.2.2.2.2.2.1, by have := h.2.2.2.2.2.2.2; omega⟩
/-- a call that must not raise -/
theorem _root_.L2.FnOk.calm {P : Program} {w : World} {K : PySem.W.Frag} {mg : Str → Option Value} {base : Heap} {k : Nat} {f : Addr} {fd : FuncData} {ps : List Str} {sp : Sp} (F : FnOk P w K mg base (L2.CX P w) k f fd ps sp) : FnOk P w K mg base C8.CX0 k f fd ps fun vs H Q _ => sp vs H Q fun _ _ _ => False :=
  ⟨fun vs H Q E h => F.len vs H Q _ h, fun A outer s H args us vs Q E hr he hb hv hs => codeAny_mono (F.run A outer s H args us vs Q _ hr he hb hv hs) fun r s' h => by
    cases r with
    | ok x => cases x <;> exact h
    | error e =>
      obtain ⟨_, _, _, _, _, _, _, _, _, _, _, _, hE⟩ := h
      exact hE.elim⟩
/-- parts told: the rows at b, a, e hold each entry once, in order -/
structure Tidy (H : Hp) (t : Addr) (r z : Str) (n : Int) (be : List (Int × Str)) (ae : List EnS.Arc) (ee : List (Int × Str)) (b a e : Addr) (bx ax ex : List V) (bd : List (Int × Str)) (ad : List EnS.Arc) (ed : List (Int × Str)) : Prop where
  tup : H t = some (.tup [.str r, .str z, .int n, .ref b, .ref a, .ref e])
  hb : H b = some (.lst bx)
  ha : H a = some (.lst ax)
  he : H e = some (.lst ex)
  nb : EntL pimg H bx bd
  na : EntL aimg H ax ad
  ne : EntL pimg H ex ed
  pb : bd.Pairwise EnS.PLt
  pa : ad.Pairwise EnS.ALt
  pe : ed.Pairwise EnS.PLt
  mb : ∀ x, x ∈ bd ↔ x ∈ be
  ma : ∀ x, x ∈ ad ↔ x ∈ ae
  me : ∀ x, x ∈ ed ↔ x ∈ ee
  lb : bd.length ≤ be.length
  la : ad.length ≤ ae.length
  le : ed.length ≤ ee.length
/-- a row in a list, its entries as keys -/
def RowK (H : Hp) (d : Addr) (ks : List (List L2.Key)) (p : Bool) : Prop := ∃ ys gs, H d = some (.lst ys) ∧ EntL kimg H ys gs ∧ gs.length ≤ ks.length ∧ (∀ e, e ∈ gs ↔ e ∈ ks) ∧
  ((p = true ∧ ∃ ds : List (Int × Str), gs = ds.map ppk ∧ ds.Pairwise EnS.PLt) ∨ (p = false ∧ ∃ ds : List EnS.Arc, gs = ds.map apk ∧ ds.Pairwise EnS.ALt))
theorem RowK.same [Tabl] {H H' : Hp} {d : Addr} {ks : List (List L2.Key)} {p : Bool} (h : RowK H d ks p) (s : Same H H') : RowK H' d ks p := by
  obtain ⟨ys, gs, h1, h2, h3⟩ := h
  exact ⟨ys, gs, s _ _ h1, h2.same s, h3⟩
theorem RowK.put [Tabl] {H : Hp} {d W : Addr} {ks : List (List L2.Key)} {p : Bool} {us zs : List V} (h : RowK H d ks p) (ne : d ≠ W) (hW : H W = some (.lst us)) : RowK (upd H W (.lst zs)) d ks p := by
  obtain ⟨ys, gs, h1, h2, h3⟩ := h
  exact ⟨ys, gs, by rw [upd_ne ne]; exact h1, h2.butN (But.put hW) (fun zs e => by rw [hW] at e; cases e), h3⟩
end Lb

namespace DkI
open PySem PySem.Spec PyProof.Rows L2
/-- d.items(), d a dict that was just made: it stays locked -/
def iItemsL (td : TE) : TI := fun σ H R => td σ H fun x H1 => ∃ d kvs, x = .ref d ∧ H1 d = some (.dK kvs) ∧ ∀ o, R (Iti d o kvs) (upd H1 d (.frz o (.dK kvs)))
end DkI
namespace Lb
open PySem PySem.Spec PyProof.Rows L2
/-! ### tables: for a key the list of some items -/
/-- an item stands for e by what tuples hold -/
def ByTup {α : Type} (R : Hp → V → α → Prop) : Prop := ∀ H H', (∀ b xs, H b = some (.tup xs) → H' b = some (.tup xs)) → ∀ v e, R H v e → R H' v e
def REnt {α : Type} (img : α → List V) : Hp → V → α → Prop := fun H v e => ∃ t, v = .ref t ∧ H t = some (.tup (img e))
theorem rent_by {α : Type} (img : α → List V) : ByTup (REnt img) := fun _ _ k _ _ ⟨t, e, h⟩ => ⟨t, e, k _ _ h⟩
theorem ByTup.pairs {α : Type} {R : Hp → V → α → Prop} (b : ByTup R) {H H' : Hp} (k : ∀ b xs, H b = some (.tup xs) → H' b = some (.tup xs)) {vs : List V} {es : List α} (h : Paired (R H) vs es) : Paired (R H') vs es := Paired.mapP h fun v e q => b H H' k v e q
/-- what stands at a key -/
def RowV {α : Type} (R : Hp → V → α → Prop) (H : Hp) (o : Option V) (es : List α) : Prop := (es = [] ∧ o = none) ∨ ∃ l vs, es ≠ [] ∧ o = some (.ref l) ∧ H l = some (.lst vs) ∧ Paired (R H) vs es
structure RowTab {α : Type} (R : Hp → V → α → Prop) (H : Hp) (d : Addr) (sel : Int → List α) (kvs : List (L2.Key × V)) : Prop where
  has : H d = some (.dK kvs)
  keys : ∀ kv ∈ kvs, ∃ i l, kv = (Sum.inl i, V.ref l)
  nd : (kvs.map Prod.fst).Nodup
  row : ∀ i, RowV R H (valV kvs (Sum.inl i)) (sel i)
/-- the lists of the table at d are its own -/
def Owns (own : Addr → Option (Addr × Int)) (d : Addr) (kvs : List (L2.Key × V)) : Prop := ∀ i l, valV kvs (Sum.inl i) = some (.ref l) → own l = some (d, i)
theorem RowV.mono {α : Type} {R : Hp → V → α → Prop} (b : ByTup R) {H H' : Hp} {o : Option V} {es : List α} (h : RowV R H o es) (kt : ∀ b xs, H b = some (.tup xs) → H' b = some (.tup xs)) (kl : ∀ l vs, o = some (.ref l) → H l = some (.lst vs) → H' l = some (.lst vs)) : RowV R H' o es := by
  rcases h with ⟨e, o⟩ | ⟨l, vs, e, o, hl, p⟩
  · exact .inl ⟨e, o⟩
  · exact .inr ⟨l, vs, e, o, kl l vs o hl, b.pairs kt p⟩
theorem RowTab.same [Tabl] {α : Type} {R : Hp → V → α → Prop} (b : ByTup R) {H H' : Hp} {d : Addr} {sel : Int → List α} {kvs : List (L2.Key × V)} (h : RowTab R H d sel kvs) (s : Same H H') : RowTab R H' d sel kvs :=
  ⟨s _ _ h.has, h.keys, h.nd, fun i => (h.row i).mono b (fun b xs q => s _ _ q) fun l vs _ q => s _ _ q⟩
theorem RowTab.new {α : Type} {R : Hp → V → α → Prop} {H : Hp} {d : Addr} (h : H d = some (.dK [])) : RowTab R H d (fun _ => []) [] := ⟨h, fun kv m => absurd m List.not_mem_nil, List.nodup_nil, fun _ => .inl ⟨rfl, rfl⟩⟩
theorem putK_fst {kvs : List (L2.Key × V)} {k : L2.Key} {v : V} (nd : (kvs.map Prod.fst).Nodup) : ((putK kvs k v).map Prod.fst).Nodup := by
  cases h : valV kvs k with
  | none =>
    rw [putK_new v h, List.map_append]
    refine List.nodup_append.mpr ⟨nd, List.nodup_cons.mpr ⟨List.not_mem_nil, List.nodup_nil⟩, fun a ma b mb e => ?_⟩
    rw [e, List.mem_singleton.mp mb] at ma
    obtain ⟨kv, m, e⟩ := List.mem_map.mp ma
    have := (valV_any k kvs).symm
    rw [h] at this
    have t : (kvs.any fun kv => decide (kv.1 = k)) = true := List.any_eq_true.mpr ⟨kv, m, decide_eq_true e⟩
    rw [t] at this
    cases this
  | some x =>
    have t : (kvs.any fun kv => decide (kv.1 = k)) = true := by rw [valV_any, h]; rfl
    unfold putK
    rw [if_pos t, List.map_map]
    have e : kvs.map (Prod.fst ∘ fun kv : L2.Key × V => if kv.1 = k then (kv.1, v) else kv) = kvs.map Prod.fst := List.map_congr_left fun kv _ => by
      show (if kv.1 = k then (kv.1, v) else kv).1 = kv.1
      split <;> rfl
    rw [e]
    exact nd
theorem putK_keys {P : L2.Key × V → Prop} {kvs : List (L2.Key × V)} {k : L2.Key} {v : V} (h : ∀ kv ∈ kvs, P kv) (hk : P (k, v)) : ∀ kv ∈ putK kvs k v, P kv := fun kv m => by
  unfold putK at m
  split at m
  · obtain ⟨q, mq, rfl⟩ := List.mem_map.mp m
    split
    · rename_i e; rw [e]; exact hk
    · exact h q mq
  · rcases List.mem_append.mp m with m | m
    · exact h kv m
    · rw [List.mem_singleton.mp m]; exact hk
/-- what changes when an item is put behind those of a key: the table at d, lists of its own, new things -/
def Turned (own : Addr → Option (Addr × Int)) (d : Addr) (H H' : Hp) : Prop := ∀ b o, H b = some o → b ≠ d → (∀ i, own b ≠ some (d, i)) → H' b = some o
/-- d.setdefault(k, []).append(v), where p is the new list -/
theorem RowTab.push [Tabl] {α : Type} {R : Hp → V → α → Prop} (b : ByTup R) {H0 H : Hp} {d p : Addr} {sel : Int → List α} {kvs : List (L2.Key × V)} {own : Addr → Option (Addr × Int)} {i : Int} {v : V} {e : α} (h : RowTab R H d sel kvs) (ow : Owns own d kvs) (y : ∀ l x, own l = some x → H0 l = none ∧ ∃ vs, H l = some (.lst vs)) (yd : H0 d = none) (s0 : Same H0 H) (np : H p = none) (hv : R H v e) :
    (∀ x, valV kvs (Sum.inl i) = some x → ∃ l vs, x = .ref l ∧ (upd H p (.lst [])) l = some (.lst vs) ∧ vs.length = (sel i).length ∧ ∀ Hf, Hf = upd (upd H p (.lst [])) l (.lst (vs ++ [v])) → RowTab R Hf d (fun j => if j = i then sel i ++ [e] else sel j) kvs ∧ Owns own d kvs ∧ (∀ l x, own l = some x → H0 l = none ∧ ∃ vs, Hf l = some (.lst vs)) ∧ Same H0 Hf ∧ Turned own d H Hf) ∧
    (valV kvs (Sum.inl i) = none → sel i = [] ∧ (upd (upd H p (.lst [])) d (.dK (putK kvs (Sum.inl i) (.ref p)))) p = some (.lst []) ∧ ∀ Hf, Hf = upd (upd (upd H p (.lst [])) d (.dK (putK kvs (Sum.inl i) (.ref p)))) p (.lst [v]) → ∃ own', RowTab R Hf d (fun j => if j = i then sel i ++ [e] else sel j) (putK kvs (Sum.inl i) (.ref p)) ∧ Owns own' d (putK kvs (Sum.inl i) (.ref p)) ∧ (∀ l x, own' l = some x → H0 l = none ∧ ∃ vs, Hf l = some (.lst vs)) ∧ Same H0 Hf ∧ Turned own d H Hf ∧ ∀ l, l ≠ p → own' l = own l) := by
  have k1 := same_new (o := .lst []) np
  have dp : d ≠ p := fun e => by rw [← e, h.has] at np; cases np
  have s1 := s0.trans k1
  constructor
  · intro x hx
    have rw_ := h.row i
    rcases rw_ with ⟨_, o⟩ | ⟨l, vs, ne, o, hl, pr⟩
    · rw [hx] at o; cases o
    rw [hx] at o
    have e1 : x = .ref l := Option.some.inj o
    subst e1
    have ol := ow i l hx
    have ld : l ≠ d := fun e => by rw [e, h.has] at hl; cases hl
    have lp : l ≠ p := fun e => by rw [e, np] at hl; cases hl
    refine ⟨l, vs, rfl, k1 _ _ hl, pr.length, fun Hf eH => ?_⟩
    subst eH
    have kt : ∀ b xs, H b = some (.tup xs) → (upd (upd H p (.lst [])) l (.lst (vs ++ [v]))) b = some (.tup xs) := fun b xs q => by
      rw [upd_ne (fun e => by rw [e, hl] at q; cases q)]
      exact k1 _ _ q
    refine ⟨⟨?_, h.keys, h.nd, fun j => ?_⟩, ow, fun l' x' q => ⟨(y l' x' q).1, ?_⟩, (Same.refl H0).grown (y l _ ol).1 s1 (k1 _ _ hl), fun b o q _ no => ?_⟩
    · rw [upd_ne (Ne.symm ld)]
      exact k1 _ _ h.has
    · by_cases ji : j = i
      · subst ji
        rw [if_pos rfl]
        refine .inr ⟨l, vs ++ [v], by simp, hx, upd_same, Paired.snoc (b.pairs kt pr) (b _ _ kt v e hv)⟩
      · rw [if_neg ji]
        refine (h.row j).mono b kt fun l' vs' o' hl' => ?_
        have ne' : l' ≠ l := fun z => by
          subst z
          have := ow j l' o'
          rw [ol] at this
          injection this with this
          injection this with _ this
          exact ji this.symm
        rw [upd_ne ne']
        exact k1 _ _ hl'
    · by_cases z : l' = l
      · rw [z, upd_same]; exact ⟨_, rfl⟩
      · rw [upd_ne z]
        obtain ⟨ws, this⟩ := (y l' x' q).2
        exact ⟨ws, k1 _ _ this⟩
    · by_cases z : b = l
      · subst z
        exact absurd ol (no i)
      · rw [upd_ne z]
        by_cases z2 : b = p
        · rw [z2, np] at q; cases q
        · rw [upd_ne z2]; exact q
  · intro hx
    have se : sel i = [] := by
      rcases h.row i with ⟨e, _⟩ | ⟨l, vs, _, o, _⟩
      · exact e
      · rw [hx] at o; cases o
    have hp1 : (upd (upd H p (.lst [])) d (.dK (putK kvs (Sum.inl i) (.ref p)))) p = some (.lst []) := by rw [upd_ne (Ne.symm dp), upd_same]
    refine ⟨se, hp1, fun Hf eH => ?_⟩
    subst eH
    have kk : ∀ b o, H b = some o → b ≠ d → (upd (upd (upd H p (.lst [])) d (.dK (putK kvs (Sum.inl i) (.ref p)))) p (.lst [v])) b = some o := fun b o q bd => by
      have bp : b ≠ p := fun e => by rw [e, np] at q; cases q
      rw [upd_ne bp, upd_ne bd, upd_ne bp]
      exact q
    have kt : ∀ b xs, H b = some (.tup xs) → (upd (upd (upd H p (.lst [])) d (.dK (putK kvs (Sum.inl i) (.ref p)))) p (.lst [v])) b = some (.tup xs) := fun b xs q => kk b _ q fun e => by rw [e, h.has] at q; cases q
    refine ⟨fun l => if l = p then some (d, i) else own l, ⟨?_, putK_keys h.keys ⟨i, p, rfl⟩, putK_fst h.nd, fun j => ?_⟩, fun j l o => ?_, fun l' x' q => ?_, ?_, fun b o q bd _ => kk b o q bd, fun l ne => if_neg ne⟩
    · rw [upd_ne dp, upd_same]
    · rw [valV_put]
      by_cases ji : j = i
      · subst ji
        rw [if_pos rfl, if_pos rfl, se]
        exact .inr ⟨p, [v], by simp, rfl, upd_same, .cons (b _ _ kt v e hv) .nil⟩
      · rw [if_neg (fun z => ji (Sum.inl.inj z)), if_neg ji]
        refine (h.row j).mono b kt fun l' vs' o' hl' => kk _ _ hl' fun e => by rw [e, h.has] at hl'; cases hl'
    · rw [valV_put] at o
      by_cases ji : j = i
      · subst ji
        rw [if_pos rfl] at o
        injection o with o
        injection o with o
        exact if_pos o.symm
      · rw [if_neg (fun z => ji (Sum.inl.inj z))] at o
        have ol := ow j l o
        have lp : l ≠ p := fun z => by
          obtain ⟨ws, q⟩ := (y l _ ol).2
          rw [z, np] at q
          cases q
        exact (if_neg lp).trans ol
    · dsimp only at q
      by_cases z : l' = p
      · rw [z, upd_same]
        exact ⟨s0.free np, _, rfl⟩
      · rw [if_neg z] at q
        obtain ⟨y1, ws, hl⟩ := y l' x' q
        exact ⟨y1, ws, kk l' _ hl fun e => by rw [e, h.has] at hl; cases hl⟩
    · exact (Same.refl H0).grown (o := .lst [v]) (s0.free np) ((Same.refl H0).grown (o := .dK (putK kvs (Sum.inl i) (.ref p))) yd s1 (k1 _ _ h.has)) hp1
/-- a letter's table of arcs -/
def selA (ad : List EnS.Arc) (c : Str) (i : Int) : List EnS.Arc := (ad.filter fun e => decide (e.2.1 = c)).filter fun e => decide (e.1 = i)
def sgn (c : Nat) : Str := ⟨#[c]⟩
/-- for each letter of r the table of the arcs that read it, by their sources -/
def LetTab (H : Hp) (t : Addr) (r : Str) (ad : List EnS.Arc) : Prop := ∃ kvs : List (L2.Key × V), H t = some (.dK kvs) ∧ ∀ c ∈ cs r, ∃ d ks, valV kvs (Sum.inr (sgn c)) = some (.ref d) ∧ RowTab (REnt aimg) H d (selA ad (sgn c)) ks ∧ ks.length ≤ 1000
theorem LetTab.same [Tabl] {H H' : Hp} {t : Addr} {r : Str} {ad : List EnS.Arc} (h : LetTab H t r ad) (s : Same H H') : LetTab H' t r ad := by
  obtain ⟨kvs, ht, f⟩ := h
  exact ⟨kvs, s _ _ ht, fun c hc => let ⟨d, ks, h1, h2, h3⟩ := f c hc; ⟨d, ks, h1, h2.same (rent_by _) s, h3⟩⟩
theorem one_sign {x : Str} (h : x.length = 1) : ∃ c, x = sgn c ∧ cs x = [c] := by
  obtain ⟨c, hc⟩ := List.length_eq_one_iff.mp (show (cs x).length = 1 by rw [cs_len]; exact h)
  exact ⟨c, cs_ext (by rw [hc]; rfl), hc⟩
/-! ### tables of counts -/
def cmK (ps : List (Int × Int)) : List (L2.Key × V) := ps.map fun p => (Sum.inl p.1, V.int p.2)
def getC : List (Int × Int) → Int → Int
  | [], _ => 0
  | (t, x) :: r, s => if t = s then x else getC r s
def addC : List (Int × Int) → Int → Int → List (Int × Int)
  | [], s, c => [(s, c)]
  | (t, x) :: r, s, c => if t = s then (t, x + c) :: r else (t, x) :: addC r s c
/-- the counts of a table, weighed -/
def totC (g : Int → Int) (ps : List (Int × Int)) : Int := (ps.map fun p => p.2 * g p.1).sum
/-- counts by state, at d -/
structure CMap (H : Hp) (d : Addr) (ps : List (Int × Int)) : Prop where
  has : H d = some (.dK (cmK ps))
  nd : (ps.map Prod.fst).Nodup
  low : ∀ p ∈ ps, 0 ≤ p.1 ∧ p.1 ≤ 63
theorem CMap.len {H : Hp} {d : Addr} {ps : List (Int × Int)} (h : CMap H d ps) : ps.length ≤ 64 := by
  have := nodup_len ((ps.map Prod.fst).map Int.toNat) (List.range 64) (List.pairwise_map.mpr (List.Pairwise.imp_of_mem (R := fun a b => a ≠ b) (fun {a b} ma mb ne e => ne (by
    obtain ⟨p, mp, rfl⟩ := List.mem_map.mp ma
    obtain ⟨q, mq, rfl⟩ := List.mem_map.mp mb
    have := h.low p mp
    have := h.low q mq
    omega)) h.nd)) fun x m => by
      obtain ⟨i, mi, rfl⟩ := List.mem_map.mp m
      obtain ⟨p, mp, rfl⟩ := List.mem_map.mp mi
      have := h.low p mp
      exact List.mem_range.mpr (by omega)
  rw [List.length_map, List.length_map, List.length_range] at this
  exact this
end Lb

namespace GQ
open PySem PySem.Spec PyProof.Rows L2 GxR
open Lb (Tabl Good)
/-! ### all(.. for .. in ..), any(..): the element any expression, which may call
The generator's frame is a context of its own; what the element does is done to the tracked heap. -/
/-- the context of a generator's element, made in the state s: the iterator's objects at fp may turn -/
abbrev gx (X : Cx) (A' : Around) (s : Shared) (H : Hp) (cenv : Env) (fp : List Addr) : Cx :=
  { X with A := A', s_0 := s, H_0 := H, env := cenv, outer := X.stack, stack := cenv :: X.stack, ex := fp, fn := fun _ => false, pn := [], xe := fun _ _ => False }
section
variable {X : Cx} {pins : List (Addr × Obj)} {σ : L2.St} {H : Hp} {s : Shared}
/-- the generator is there, none of its turns yet -/
theorem gx_start {scope : Scope} {own : List (Str × Nat)} {fp : List Addr} {A' : Around} {code : Value} {ga : Addr} {go : Obj} {s5 : Shared} {m : Str → Option Value} (I : Inv X pins σ H s) (ok : BlkOk X.N X.env.scope scope own) (nocell : ∀ y ∈ scope.names, y.2 ≠ .cell) (hN : X.N.Nodup)
    (hfp : ∀ b ∈ fp, FpOk X pins H b ∧ b < s.heap.objs.size) (hd : X.calm = true → A'.handled = none) (hfr : A'.frames = some (genEnv scope (cloFrom X.env.cells scope.names []) s.heap.objs.size code builtinsNs X.env :: X.stack))
    (hos : s5.os = s.os) (hb : AllBare s5.gens) (kp : ∀ b o, s.heap.get? b = some o → s5.heap.get? b = some o) (hns : s5.heap.Ns s.heap.objs.size m) (hga : s.heap.objs.size < ga) (hgo : s5.heap.get? ga = some go) (hgd : ∀ v, go.data ≠ .cell v) :
    Inv (gx X A' s H (genEnv scope (cloFrom X.env.cells scope.names []) s.heap.objs.size code builtinsNs X.env) fp) [(ga, go)] (wipe σ (own.map (·.2))) H s5 := by
  have hfree : ∀ y ∈ scope.names, y.2 = .free → ∃ c, X.env.cells.lookup y.1 = some c := fun y hy e => by
    rcases ok.free y hy e with k | k
    · exact I.ok.has _ (.inl k)
    · exact I.ok.has _ (.inr k)
  generalize hcenv : genEnv scope (cloFrom X.env.cells scope.names []) s.heap.objs.size code builtinsNs X.env = cenv at hfr ⊢
  have hL : cenv.locals = s.heap.objs.size := by rw [← hcenv]; rfl
  have hcl : cenv.cells = cloFrom X.env.cells scope.names [] := by rw [← hcenv]; rfl
  have hsc : cenv.scope = scope := by rw [← hcenv]; rfl
  have hff : cenv.frame = some cenv.locals := by rw [← hcenv]; rfl
  have cm : ∀ {y c}, cenv.cells.lookup y = some c → X.env.cells.lookup y = some c ∧ c < s.heap.objs.size := fun {y c} e => by
    rw [hcl] at e
    rcases cloFrom_mem (PySem.mem_of_lookup e) with hm | ⟨h1, rfl⟩
    · cases hm
    · obtain ⟨c, hc⟩ := hfree _ h1 rfl
      rw [hc]
      obtain ⟨v, z⟩ := I.cell _ _ hc
      exact ⟨rfl, z.lt⟩
  have nlt : ∀ c, c < s.heap.objs.size → c ≠ s.heap.objs.size := fun c h => Nat.ne_of_lt h
  have okG : (gx X A' s H cenv fp).Ok := by
    refine ⟨I.ok.mod, by show cenv.scope.kind = _; rw [hsc]; exact ok.kind, by show cenv.globals = _; rw [← hcenv]; exact I.ok.glob, by show cenv.builtins = _; rw [← hcenv]; rfl, by show s.heap.objs.size ≤ cenv.locals; rw [hL]; exact Nat.le_refl _,
      fun y z c e1 e2 => I.ok.inj y z c (cm e1).1 (cm e2).1, fun y hy => ?_, fun y c z e => (by cases z), hd, hfr, .inr ⟨rfl, hff⟩, fun b hb => ⟨?_, fun y c e z => ?_⟩, I.bs, Nat.le_trans I.ok.bsz I.sz, fun b o e hb => ?_, fun b hb z => ?_, I.stack, I.stkFree⟩
    · show ∃ c, cenv.cells.lookup y = some c
      have hy' : scope.names.lookup y = some .cell ∨ scope.names.lookup y = some .free := by
        have : cenv.scope.names.lookup y = some .cell ∨ cenv.scope.names.lookup y = some .free := hy
        rw [hsc] at this
        exact this
      rcases hy' with e | e
      · exact absurd rfl (nocell _ (PySem.mem_of_lookup e))
      · obtain ⟨c, hc⟩ := hfree _ (PySem.mem_of_lookup e) rfl
        exact ⟨c, by rw [hcl]; exact NdefX.clo_has (fun z hz ez => hfree z hz ez) (PySem.mem_of_lookup e) hc⟩
    · show b ≠ cenv.locals
      rw [hL]
      exact nlt b (hfp b hb).2
    · exact (hfp b hb).1.2.2.2.2.1 y c (cm e).1 z
    · rcases (hfp b hb).1.2.2.2.1 with z | z
      · exact I.ok.noex b o e z
      · exact absurd (Nat.lt_of_lt_of_le (Heap.lt_size e) (Nat.le_trans I.ok.bsz z)) (Nat.lt_irrefl _)
    · rcases List.mem_cons.mp (I.stkSub b z) with z | z
      · exact (hfp b hb).1.2.1 z
      · exact (hfp b hb).1.2.2.1 z
  refine ⟨okG, hos, hb, Un.kept kp, ⟨m, by show Heap.Ns _ cenv.locals _; rw [hL]; exact hns, fun i y v e1 e2 e3 => ?_⟩, fun y c e => ?_, by show H cenv.locals = none; rw [hL]; exact I.hok.fresh (Nat.le_refl _), fun y c e => I.freeC y c (cm e).1, fun p hp => ?_, I.hok.kept kp, by rw [wipe_length]; exact I.len⟩
  · obtain ⟨e2, hne⟩ := wipe_some e2
    have e3 : scope.names.lookup y = some .local ∨ scope.names.lookup y = some .cell ∨ scope.names.lookup y = some .free := by
      have : Vis cenv.scope y := e3
      rw [hsc] at this
      exact this
    have no : ¬ scope.names.lookup y = some .local := fun e => by
      rcases ok.own _ (PySem.mem_of_lookup e) (.inl rfl) with e' | e'
      · obtain ⟨p, hp, hpy⟩ := List.mem_map.mp e'
        have e4 := ok.ix p hp
        have : p.1 = y := hpy
        rw [this] at e4
        exact hne (List.mem_map.mpr ⟨p, hp, nodup_ix hN e4 e1⟩)
      · exact e' (List.mem_of_getElem? e1)
    have fr : scope.names.lookup y = some .free := by
      rcases e3 with e3 | e3 | e3
      · exact absurd e3 no
      · exact absurd rfl (nocell _ (PySem.mem_of_lookup e3))
      · exact e3
    obtain ⟨_, _, hl⟩ := I.loc
    have hvis : Vis X.env.scope y := (ok.free _ (PySem.mem_of_lookup fr) rfl).elim (fun k => .inr (.inl k)) (fun k => .inr (.inr k))
    obtain ⟨u, r, q⟩ := hl i y v e1 e2 hvis
    refine ⟨u, r, .inr ⟨.inr (by show cenv.scope.names.lookup y = _; rw [hsc]; exact fr), ?_⟩⟩
    rcases q with ⟨k, _⟩ | ⟨_, c', e', z⟩
    · have k : X.env.scope.names.lookup y = some .local := k
      rcases ok.free _ (PySem.mem_of_lookup fr) rfl with k' | k' <;> rw [show X.env.scope.names.lookup y = _ from k'] at k <;> cases k
    · exact ⟨c', by rw [hcl]; exact NdefX.clo_has (fun z hz ez => hfree z hz ez) (PySem.mem_of_lookup fr) e', z.keeps kp⟩
  · obtain ⟨v, z⟩ := I.cell y c (cm e).1
    exact ⟨v, z.keeps kp⟩
  · rcases List.mem_append.mp hp with hp | hp
    · cases hp
    · rw [List.mem_singleton.mp hp]
      refine ⟨hgo, I.hok.fresh (Nat.le_of_lt hga), by show ga ≠ cenv.locals; rw [hL]; exact Nat.ne_of_gt hga, fun z => ?_, hgd⟩
      rcases List.mem_cons.mp (I.stkSub ga z) with z | z
      · exact absurd (Nat.lt_trans hga (by rw [z]; exact I.lt)) (Nat.lt_irrefl _)
      · exact I.nofs (Nat.le_of_lt hga) z
/-- the state behind a turn, for those who made the generator -/
def DoneG (X : Cx) (H : Hp) (s : Shared) (fp : List Addr) (H' : Hp) (s' : Shared) : Prop :=
  s'.os = s.os ∧ AllBare s'.gens ∧ Un (frs X.stack) fp H H' s.heap s'.heap ∧ HOk X.prog X.w H' s'.heap
theorem DoneG.gen {H' : Hp} {fp : List Addr} {s' : Shared} {g : Nat} {x : GenState} (h : DoneG X H s fp H' s') (hx : x.bare = true) : DoneG X H s fp H' (s'.setGen g x) :=
  ⟨h.1, allBare_setGen h.2.1 hx, h.2.2.1, h.2.2.2⟩
theorem DoneG.grown {H' : Hp} {fp : List Addr} {s' s'' : Shared} (h : DoneG X H s fp H' s') (os : s''.os = s'.os) (hb : AllBare s''.gens) (k : ∀ b o, s'.heap.get? b = some o → s''.heap.get? b = some o) : DoneG X H s fp H' s'' :=
  ⟨os.trans h.1, hb, h.2.2.1.trans (Un.kept k), h.2.2.2.kept k⟩
/-- the generator ends; it hands out a flag: sb ends the walk -/
def RG (X : Cx) (H : Hp) (s : Shared) (fp : List Addr) (Fin : Hp → Prop) : GenEnd := fun _ _ r s1 => ((r = .ok (.ret .none) ∨ r = .ok .next) ∧ ∃ H', DoneG X H s fp H' s1 ∧ Fin H') ∨ ∃ e, r = .error e ∧ False
def YG (X : Cx) (H : Hp) (s : Shared) (fp : List Addr) (ga : Addr) (g : Nat) (sb : Bool) (Cut : Hp → Prop) : Protocol := fun _ _ v s1 kap =>
  ∃ b H', v = .bool b ∧ DoneG X H s fp H' s1 ∧ s1.heap.IsGen ga g ∧ s1.heap.NoLimit ∧ (b = sb → Cut H') ∧ (b ≠ sb → ∀ s'' : Shared, s''.heap = s1.heap → s''.os = s1.os → AllBare s''.gens → kap (.send .none) s'')
/-- one turn after another: W by the turn and a measure -/
def Turns (J : It) (sb : Bool) (Fin Cut : Hp → Prop) (g : TG) (tt : TT) (te : TE) (σ : L2.St) (vs : List Nat) (W : Nat → Nat → Hp → Prop) : Prop :=
  ∀ i m H, W i m H → (J.stop i H ∧ Fin H) ∨ (J.go i H ∧ ∃ Nx : Hp → Prop, (∀ H', Nx H' → ∃ m', m' < m ∧ W (i + 1) m' H') ∧ ∀ x H', J.yld i H x H' → g x (wipe σ vs) H' fun σ2 H2 => wipe σ2 vs = wipe σ vs ∧ tt σ2 H2 fun b H3 =>
    if b = true then te σ2 H3 fun y H4 => ∃ c, y = .bl c ∧ (c = sb → Cut H4) ∧ (c ≠ sb → Nx H4) else Nx H3)
theorem inv_alike {A' : Around} {cenv : Env} {fp : List Addr} {pins' : List (Addr × Obj)} {σ' : L2.St} {H0 H' : Hp} {s0 s1 s2 : Shared} (I : Inv (gx X A' s0 H0 cenv fp) pins' σ' H' s1) (hh : s2.heap = s1.heap) (os : s2.os = s1.os) (hb : AllBare s2.gens) : Inv (gx X A' s0 H0 cenv fp) pins' σ' H' s2 :=
  ⟨I.ok, os.trans I.os, hb, by rw [hh]; exact I.base, by rw [hh]; exact I.loc, by rw [hh]; exact I.cell, I.free, I.freeC, by rw [hh]; exact I.pin, by rw [hh]; exact I.hok, I.len⟩
theorem seg_turns {elt tg iter : Expr} {ifs : List Expr} {scope : Scope} {pos : Pos} {A : Around} {s4 : Shared} {H4 : Hp} {cenv : Env} {fp : List Addr} {it : Addr} {tn : Nat → Heap → Prop} {J : It} {ga : Addr} {gn : Nat} {go : Obj} {sb : Bool} {Fin Cut : Hp → Prop} {g : TG} {tt : TT} {te : TE} {vs : List Nat} {W : Nat → Nat → Hp → Prop}
    (hc : X.calm = true) (hco : cenv.scope.isCoroutine = false) (T : Turn X.prog X.w X.K tg J fp it tn) (isG : ∀ h : Heap, h.get? ga = some go → h.IsGen ga gn) (nga : ∀ b ∈ fp, ga ≠ b)
    (pg : PG (gx X (A.over (.compLoop (.GeneratorExp elt [⟨tg, iter, ifs, 0⟩] scope pos) 0 (.ref it) .none cenv) []) s4 H4 cenv fp) tg g)
    (pt : PTs (gx X (A.over (.compLoop (.GeneratorExp elt [⟨tg, iter, ifs, 0⟩] scope pos) 0 (.ref it) .none cenv) []) s4 H4 cenv fp) ifs tt)
    (pe : PE (gx X (A.over (.compLoop (.GeneratorExp elt [⟨tg, iter, ifs, 0⟩] scope pos) 0 (.ref it) .none cenv) []) s4 H4 cenv fp) elt te) (turn : Turns J sb Fin Cut g tt te σ vs W) :
    ∀ (m i n : Nat) (s₀ s : Shared) (H : Hp), m < n → Inv (gx X (A.over (.compLoop (.GeneratorExp elt [⟨tg, iter, ifs, 0⟩] scope pos) 0 (.ref it) .none cenv) []) s4 H4 cenv fp) [(ga, go)] (wipe σ vs) H s → tn i s.heap → (∀ b ∈ fp, H b = none) → W i m H →
      Seg (model X.prog X.w) A (RG X H4 s4 fp Fin) (YG X H4 s4 fp ga gn sb Cut) n s₀ (.compLoop (.GeneratorExp elt [⟨tg, iter, ifs, 0⟩] scope pos) 0 (.ref it) .none cenv)
        ((model X.prog X.w).den (.compLoop (.GeneratorExp elt [⟨tg, iter, ifs, 0⟩] scope pos) 0 (.ref it) .none cenv)) [] s := by
  generalize hA' : A.over (.compLoop (.GeneratorExp elt [⟨tg, iter, ifs, 0⟩] scope pos) 0 (.ref it) .none cenv) [] = A' at pg pt pe ⊢
  have stat : ∀ {σ' : L2.St} {H' : Hp} {s' : Shared}, Inv (gx X A' s4 H4 cenv fp) [(ga, go)] σ' H' s' → (∀ b ∈ fp, H' b = none) → ∀ b ∈ fp, FpOk (gx X A' s4 H4 cenv fp) [(ga, go)] H' b := fun {σ' H' s'} I' hn b hb =>
    ⟨hn b hb, (I'.ok.exf b hb).1, I'.ok.exfs b hb, .inl hb, fun x c e => (I'.ok.exf b hb).2 x c e, fun p hp => by
      rcases List.mem_append.mp hp with hp | hp
      · cases hp
      · rw [List.mem_singleton.mp hp]; exact nga b hb⟩
  have done : ∀ {σ' : L2.St} {H' : Hp} {s' : Shared} {ps : List (Addr × Obj)}, Inv (gx X A' s4 H4 cenv fp) ps σ' H' s' → DoneG X H4 s4 fp H' s' := fun {σ' H' s' ps} I' => ⟨I'.os, I'.bare, I'.base, I'.hok⟩
  intro m
  induction m using Nat.strongRecOn with
  | ind m ih =>
  intro i n s₀ s H hmn I st hn w
  show Seg _ A _ _ _ s₀ _ ((compTurn (.GeneratorExp elt [⟨tg, iter, ifs, 0⟩] scope pos) 0 (.ref it) .none cenv).onRaise (leaving cenv)) [] s
  rw [compTurn_gen, Sem.onRaise_eq_wrap]
  refine seg_bind_wrap (wpAny_standAt ?_)
  rcases turn i m H w with ⟨stop, fin⟩ | ⟨goes, Nx, hNx, step⟩
  · refine seg_bind_wrap ?_
    rw [hA']
    refine thnF (T.done (gx X A' s4 H4 cenv fp) rfl rfl rfl hc i [(ga, go)] s _ H (fun _ _ => False) I (stat I hn) st stop) fun r s6 ⟨hr, I6⟩ => ?_
    subst hr
    exact seg_end (.ok .next) (.inl ⟨.inr rfl, H, done I6, fin⟩)
  · refine seg_bind_wrap ?_
    rw [hA']
    refine thnF (T.item (gx X A' s4 H4 cenv fp) rfl rfl rfl hc i [(ga, go)] s _ H (fun _ _ => False) I (stat I hn) st goes) fun r s6 ⟨u, hr, h6⟩ => ?_
    subst hr
    refine seg_bind_wrap ?_
    rw [hA']
    refine thnF h6 fun _ s7 ⟨x, H7, I7, r7, y7, st7, n7⟩ => ?_
    have I7' := I7.pinned (stat I7 n7) (T.obj _ _ st7)
    refine seg_bind_wrap ?_
    rw [hA']
    refine thnF (pg.run _ s7 _ H7 x u _ I7' r7 (step x H7 y7)) fun _ s8 ⟨σ8, H8, I8, hw8, q8⟩ => ?_
    refine seg_bind_wrap ?_
    rw [hA']
    refine thnF (pt.run _ s8 σ8 H8 _ I8 q8) fun b s9 ⟨H9, I9, q9⟩ => ?_
    -- the turn's end
    have fin : ∀ {s' : Shared} {H' : Hp}, Inv (gx X A' s4 H4 cenv fp) ([(ga, go)] ++ pinsAt fp s7.heap) σ8 H' s' → Inv (gx X A' s4 H4 cenv fp) [(ga, go)] (wipe σ vs) H' s' ∧ tn (i + 1) s'.heap ∧ ∀ b ∈ fp, H' b = none := fun {s' H'} I' => by
      have pin' : ∀ b ∈ fp, ∀ o, s7.heap.get? b = some o → s'.heap.get? b = some o ∧ H' b = none := fun b hb o e =>
        let z := I'.pin (b, o) (List.mem_append_right _ (List.mem_append_right _ (mem_pinsAt hb e)))
        ⟨z.1, z.2.1⟩
      have hl : (wipe σ vs).length = σ8.length := by rw [← hw8, wipe_length]
      refine ⟨(I'.unpinned (pins := [(ga, go)])).weak hl (fun j v e => ?_), T.keep _ _ _ st7 fun b hb o e => (pin' b hb o e).1, fun b hb => ?_⟩
      · rw [← hw8] at e
        exact (wipe_some e).1
      · obtain ⟨o, e, _⟩ := T.obj _ _ st7 b hb
        exact (pin' b hb o e).2
    cases b with
    | false =>
      simp only [Bool.false_eq_true, if_false] at q9 ⊢
      obtain ⟨J9, st9, n9⟩ := fin I9
      obtain ⟨m', lt, w'⟩ := hNx H9 q9
      exact seg_again rfl (ih m' lt (i + 1) n s₀ s9 H9 (by omega) J9 st9 n9 w')
    | true =>
      simp only [if_true] at q9 ⊢
      have hy : ∀ v, yieldOut cenv v = yieldValue v := fun v => by simp only [yieldOut, hco, Bool.false_eq_true, if_false]
      simp only [hy]
      rw [Sem.bind_eq_wrap', Sem.bind_eq_wrap', Sem.wrap_wrap, Sem.wrap_wrap]
      refine seg_wrap ?_
      rw [hA']
      refine thnF (pe.run _ s9 σ8 H9 _ I9 q9) fun z s10 ⟨yv, H10, I10, r10, c, ec, cut, nx⟩ => ?_
      subst ec
      have ez : z = .bool c := r10
      subst ez
      obtain ⟨J10, st10, n10⟩ := fin I10
      obtain ⟨n, rfl⟩ : ∃ k, n = k + 1 := ⟨n - 1, by omega⟩
      refine seg_at (seg_yield rfl rfl rfl ⟨c, H10, rfl, done J10, isG _ (J10.pin (ga, go) (List.mem_append_right _ (List.mem_singleton.mpr rfl))).1, J10.nolimit, cut, fun ne s'' hh os hb => ?_⟩)
      obtain ⟨m', lt, w'⟩ := hNx H10 (nx ne)
      exact seg_again rfl (ih m' lt (i + 1) n s'' s'' H10 (by omega) (inv_alike J10 hh os hb) (by rw [hh]; exact st10) n10 w')
/-- from its start -/
theorem seg_begun {elt tg iter : Expr} {ifs : List Expr} {scope : Scope} {pos : Pos} {A : Around} {R : GenEnd} {Y : Protocol} {cenv : Env} {fp : List Addr} {it : Addr} {tn : Nat → Heap → Prop} {J : It} {n : Nat} {s₀ s : Shared}
    (T : Turn X.prog X.w X.K tg J fp it tn) (st : tn 0 s.heap)
    (walk : Seg (model X.prog X.w) A R Y n s₀ (.compLoop (.GeneratorExp elt [⟨tg, iter, ifs, 0⟩] scope pos) 0 (.ref it) .none cenv) ((model X.prog X.w).den (.compLoop (.GeneratorExp elt [⟨tg, iter, ifs, 0⟩] scope pos) 0 (.ref it) .none cenv)) [] s) :
    Seg (model X.prog X.w) A R Y n s₀ (.compStart (.GeneratorExp elt [⟨tg, iter, ifs, 0⟩] scope pos) 0 (.ref it) .none cenv) ((model X.prog X.w).den (.compStart (.GeneratorExp elt [⟨tg, iter, ifs, 0⟩] scope pos) 0 (.ref it) .none cenv)) [] s := by
  show Seg _ A _ _ _ s₀ _ ((compStart (.GeneratorExp elt [⟨tg, iter, ifs, 0⟩] scope pos) 0 (.ref it) .none cenv).onRaise (leaving cenv)) [] s
  unfold compStart
  rw [Sem.onRaise_eq_wrap]
  show Seg _ A _ _ _ s₀ _ ((ask >>= _).wrap _ _ _ _) [] s
  refine seg_bind_wrap (wpAny_askSetting ?_)
  split
  · exact seg_again rfl walk
  · first
      | exact seg_bind_wrap (wpAny_rule (seg_bind_wrap (wpAny_standAt (seg_bind_wrap (T.self _ 0 s _ _ st (seg_again rfl walk))))))
      | (refine seg_bind_wrap (wpAny_rule ?_)
         show Seg _ A _ _ _ s₀ _ ((standAt iter.pos >>= _).wrap _ _ _ _) [] s
         exact seg_bind_wrap (wpAny_standAt (seg_bind_wrap (T.self _ 0 s _ _ st (seg_again rfl walk)))))
/-- the walk of all(..), any(..) -/
theorem all_walk {A : Around} {RR : Result → Shared → Prop} {H4 : Hp} {s4 : Shared} {fp : List Addr} {ga : Addr} {gn : Nat} {Fin Cut : Hp → Prop} (hh : A.handled = none) (hd : A.depth < recursionLimit)
    (fin : ∀ s' H', DoneG X H4 s4 fp H' s' → Fin H' → RR (.ok (.ret (.bool true))) s') (cut : ∀ s' H', DoneG X H4 s4 fp H' s' → Cut H' → RR (.ok (.ret (.bool false))) s') :
    ∀ (m : Nat) (s : Shared), s.heap.IsGen ga gn → s.heap.NoLimit →
      (∃ gs, s.gens[gn]? = some gs ∧ gs.Goes (model X.prog X.w) A.in1.in1 (RG X H4 s4 fp Fin) (YG X H4 s4 fp ga gn false Cut) m (.send .none) (s.setGen gn .running)) →
      codeAny (model X.prog X.w) A (.builtin "all.loop" ⟨[.ref ga], []⟩) RR s := by
  intro m
  induction m with
  | zero =>
    intro s hg hl ⟨gs, hgs, hgo⟩
    refine codeAny_builtin F.entry_all_loop ?_
    rw [Around.under_plainId F.plain_all_loop _]
    show wpAny _ A.in1 (pyNext (.ref ga) >>= _) _ _ s
    refine wpAny_bind (next_genG (A := A.in1) hh hl hd hg hgs hgo (fun v s1 gs' bare hv => ?_) (fun s1 hp h' hk => ?_) fun e s1 he => he.elim)
    · obtain ⟨b, H', rfl, dn, hg1, hl1, c1, c2⟩ := hv
      refine wpAny_bind (wpAny_holding (wpAny_truthy_bool (wpAny_bind (wpAny_letGo ?_))))
      cases b with
      | true => exact (c2 (by decide) s1 rfl rfl dn.2.1).elim
      | false =>
        simp only [Bool.false_eq_true, if_false]
        exact wpAny_bind (wpAny_rule (wpAny_pure (cut _ _ (dn.gen bare) (c1 rfl))))
    · obtain ⟨H', dn, hf⟩ := hp
      exact wpAny_bind (wpAny_rule (wpAny_pure (fin _ _ ((dn.gen (g := gn) (x := .finished) rfl).grown (s'' := { s1.setGen gn .finished with heap := h' }) rfl (dn.gen (g := gn) (x := .finished) rfl).2.1 hk) hf)))
  | succ m ih =>
    intro s hg hl ⟨gs, hgs, hgo⟩
    have hgl : gn < s.gens.size := (Array.getElem?_eq_some_iff.mp hgs).1
    refine codeAny_builtin F.entry_all_loop ?_
    rw [Around.under_plainId F.plain_all_loop _]
    show wpAny _ A.in1 (pyNext (.ref ga) >>= _) _ _ s
    refine wpAny_bind (GenW.wpAny_gsz (n := gn + 1) hgl (next_genG (A := A.in1) hh hl hd hg hgs hgo (fun v s1 gs' bare hv => ?_) (fun s1 hp h' hk => ?_) fun e s1 he => he.elim))
    · intro hsz
      obtain ⟨b, H', rfl, dn, hg1, hl1, c1, c2⟩ := hv
      refine wpAny_bind (wpAny_holding (wpAny_truthy_bool (wpAny_bind (wpAny_letGo ?_))))
      cases b with
      | true =>
        simp only [if_true]
        have hsz1 : gn < s1.gens.size := by
          have q : (s1.setGen gn gs').gens.size = s1.gens.size := GenW.setGen_size _ _ _
          have hsz' : gn + 1 ≤ (s1.setGen gn gs').gens.size := hsz
          omega
        refine wpAny_pure ⟨plainId_quiet F.plain_all_loop _, ih (s1.setGen gn gs') hg1 hl1 ⟨gs', setGen_at hsz1, ?_⟩⟩
        exact c2 (by decide) _ rfl rfl (allBare_setGen (s := s1.setGen gn gs') (allBare_setGen dn.2.1 bare) rfl)
      | false =>
        simp only [Bool.false_eq_true, if_false]
        exact wpAny_bind (wpAny_rule (wpAny_pure (cut _ _ (dn.gen bare) (c1 rfl))))
    · intro _
      obtain ⟨H', dn, hf⟩ := hp
      exact wpAny_bind (wpAny_rule (wpAny_pure (fin _ _ ((dn.gen (g := gn) (x := .finished) rfl).grown (s'' := { s1.setGen gn .finished with heap := h' }) rfl (dn.gen (g := gn) (x := .finished) rfl).2.1 hk) hf)))
variable [Tabl]
/-- the reading: behind the iterator the def's table may have grown -/
def tGenB (sb : Bool) (wi : TI) (g : TG) (tt : TT) (te : TE) (vs : List Nat) : TE := fun σ H Q => wi σ H fun J H1 => Good H1 ∧ ∀ H2, Lb.Same H1 H2 → ∃ W : Nat → Nat → Hp → Prop, (∃ m, W 0 m H2) ∧ Turns J sb (fun H' => Q (.bl (!sb)) H') (fun H' => Q (.bl sb) H') g tt te σ vs W
/-- the generator is made: what is owed to those who walk it -/
theorem gen_made {c P : Addr} {elt tg iter : Expr} {ifs : List Expr} {scope : Scope} {gpos : Pos} {own : List (Str × Nat)} {wi : TI} {g : TG} {tt : TT} {te : TE} {k : Nat} {sb : Bool} {Q : VK} {Q' : Value → Shared → Prop}
    (hr : Room (k + 1) X.A) (hc : X.calm = true) (hN : X.N.Nodup) (TB : LamX.TabB X.base X.mg c P) (hmem : (P, X.env.qual ++ "<genexpr>") ∈ Tabl.T) (hcode : X.env.code = .ref c) (ok : BlkOk X.N X.env.scope scope own) (nocell : ∀ y ∈ scope.names, y.2 ≠ .cell) (hco : scope.isCoroutine = false) (hdot : scope.names.lookup (".0" : Str) = some NameKind.local)
    (hi : PI X tg iter wi)
    (hg : ∀ (A' : Around) (s : Shared) (H : Hp) (cl : List (Str × Addr)) (C : Addr) (code : Value) (fp : List Addr), PG (gx X A' s H (genEnv scope cl C code builtinsNs X.env) fp) tg g)
    (ht : ∀ (A' : Around) (s : Shared) (H : Hp) (cl : List (Str × Addr)) (C : Addr) (code : Value) (fp : List Addr), Room k A' → PTs (gx X A' s H (genEnv scope cl C code builtinsNs X.env) fp) ifs tt)
    (he : ∀ (A' : Around) (s : Shared) (H : Hp) (cl : List (Str × Addr)) (C : Addr) (code : Value) (fp : List Addr), Room k A' → PE (gx X A' s H (genEnv scope cl C code builtinsNs X.env) fp) elt te)
    (hs : ∀ v, genFold iter X.env v = pure v) (I : Inv X pins σ H s) (h : tGenB sb wi g tt te (own.map (·.2)) σ H Q)
    (hQ : ∀ (ga : Addr) (gn m : Nat) (s4 s5 : Shared) (H4 : Hp) (fp : List Addr), s5.heap.IsGen ga gn → s5.heap.NoLimit → (∀ s' H', DoneG X H4 s4 fp H' s' → Inv X pins σ H' s') →
      (∃ gs, s5.gens[gn]? = some gs ∧ gs.Goes (model X.prog X.w) X.A.in1.in1 (RG X H4 s4 fp (fun H' => Q (.bl (!sb)) H')) (YG X H4 s4 fp ga gn sb (fun H' => Q (.bl sb) H')) m (.send .none) (s5.setGen gn .running)) → Q' (.ref ga) s5) :
    wpAny (model X.prog X.w) X.A (eval (.GeneratorExp elt [⟨tg, iter, ifs, 0⟩] scope gpos) X.env) Q' X.xe s := by
  have hfree : ∀ y ∈ scope.names, y.2 = .free → ∃ c, X.env.cells.lookup y.1 = some c := fun y hy e => by
    rcases ok.free y hy e with k | k
    · exact I.ok.has _ (.inl k)
    · exact I.ok.has _ (.inr k)
  refine wpAny_GeneratorExp_make hco (closure_ok hfree) nocell hdot ok.kind (by have := hr.dp; omega) ?_ hs
  refine thn (hi.run pins s σ H _ I h) fun xv s1 hx => thn hx fun itv s2 h2 => ?_
  obtain ⟨it, fp, tn, J, H2, e, I2, T, st2, f2, good, q⟩ := h2
  subst e
  obtain ⟨ps, tabP, tri, bears⟩ := good _ hmem
  have oldP : s2.heap.get? P = some { cls := .none, data := .fields ps } := I2.hok P _ tabP
  have codeH : PySem.W.CodeHd s2.heap c P := TB.code.keeps I2.bk
  refine ⟨I2.nolimit, ?_⟩
  -- behind the code object: s4, H4
  have owed : ∀ (code : Value) (s4 : Shared) (H4 : Hp), Inv X pins σ H4 s4 → Lb.Same H2 H4 → tn 0 s4.heap → (∀ b ∈ fp, FpOk X pins H4 b ∧ b < s4.heap.objs.size) →
      wpAny (model X.prog X.w) X.A (builtinsFor X.env.globals X.env.builtins) (fun bi s₄ => ∀ h', h'.Ns s₄.heap.objs.size (fun y => if y = ".0" then some (.ref it) else none) → Heap.SameBut s₄.heap.objs.size (s₄.heap.push { cls := .type "frame", data := .dict #[] }) h' →
        Q' (.ref h'.objs.size) { s₄ with
          gens := s₄.gens.push (.fresh (.compStart (.GeneratorExp elt [⟨tg, iter, ifs, 0⟩] scope gpos) 0 (.ref it) .none (genEnv scope (cloFrom X.env.cells scope.names []) s₄.heap.objs.size code bi X.env))),
          toks := s₄.toks + 1 + 1 + 1,
          heap := h'.push { cls := .type "generator", data := .fields #[.int s₄.gens.size 0, .str "<genexpr>" (s₄.toks + 1), .str (X.env.qual ++ "<genexpr>") (s₄.toks + 1 + 1)] } }) X.xe s4 := by
    intro code s4 H4 I4 sm st4 f4
    obtain ⟨bm, ob, b1, b2, b3, b4, b5, b6, b7, b8⟩ := TB.bm
    have glob4 : s4.heap.Ns X.env.globals X.mg := by
      rw [I4.ok.glob]
      exact I4.mod.glob.keeps I4.bk
    refine wpAny_builtinsFor (m := X.mg) glob4 b1 b2 (I4.bk _ _ b5) b6 b7 b8 ?_
    intro h' hn' hs'
    obtain ⟨W, ⟨m0, w0⟩, turn⟩ := q H4 sm
    have hsz : h'.objs.size = s4.heap.objs.size + 1 := by rw [hs'.1, Heap.size_push]
    have keep' : ∀ b o, s4.heap.get? b = some o → h'.get? b = some o := fun b o e => hs'.extBut b o (Nat.ne_of_lt (Heap.lt_size e)) (Heap.get?_push_of_some _ e)
    generalize hgo : ({ cls := .type "generator", data := .fields #[.int s4.gens.size 0, .str "<genexpr>" (s4.toks + 1), .str (X.env.qual ++ "<genexpr>") (s4.toks + 1 + 1)] } : Obj) = go
    have isG : ∀ h : Heap, h.get? h'.objs.size = some go → h.IsGen h'.objs.size s4.gens.size := fun h e => by
      subst hgo
      exact ⟨_, _, _, e, rfl, rfl, rfl⟩
    have hgoat : (h'.push go).get? h'.objs.size = some go := by subst hgo; exact Heap.get?_push_size _ rfl
    have keep5 : ∀ b o, s4.heap.get? b = some o → (h'.push go).get? b = some o := fun b o e => Heap.get?_push_of_some _ (keep' b o e)
    have nga : ∀ b ∈ fp, h'.objs.size ≠ b := fun b hb e => absurd (f4 b hb).2 (by rw [← e, hsz]; exact Nat.not_lt.mpr (Nat.le_succ _))
    have lim4 : s4.heap.NoLimit := I4.nolimit
    generalize hcv : genEnv scope (cloFrom X.env.cells scope.names []) s4.heap.objs.size code builtinsNs X.env = cenv
    refine hQ h'.objs.size s4.gens.size (m0 + 1) s4 _ H4 fp (isG _ hgoat) (lim4.keeps keep5) (fun s' H' dn => I4.call' (ch := fp) dn.1 dn.2.2.1 dn.2.2.2 dn.2.1 fun b hb => ⟨(f4 b hb).1.2.2.2.1, (f4 b hb).1.2.1, (f4 b hb).1.2.2.2.2.1, (f4 b hb).1.2.2.2.2.2⟩) ⟨_, Array.getElem?_push_size .., rfl, ?_⟩
    refine seg_begun T (T.keep _ _ _ st4 fun b hb o e => keep5 b o e) ?_
    have hA : (X.A.in1.in1.over (.compLoop (.GeneratorExp elt [⟨tg, iter, ifs, 0⟩] scope gpos) 0 (.ref it) .none cenv) []).frames = some (cenv :: X.stack) := by
      have e : (Code.compLoop (.GeneratorExp elt [⟨tg, iter, ifs, 0⟩] scope gpos) 0 (.ref it) .none cenv).envs = [cenv] := rfl
      unfold Around.over
      rw [e]
      show pushEnvs [cenv] (pushEnvs (envsOf []) X.A.frames) = _
      rw [I4.ok.frames]
      rfl
    have hroom : Room k (X.A.in1.in1.over (.compLoop (.GeneratorExp elt [⟨tg, iter, ifs, 0⟩] scope gpos) 0 (.ref it) .none cenv) []) := by
      refine ⟨hr.hd, ?_, ?_⟩
      · have := hr.dp
        show X.A.depth + 0 + 1 + 3 * k + 5 < _
        omega
      · have := hr.un
        show X.A.units + 1 + 1 + 0 + 3 + 16 * k + 200 < _
        omega
    refine seg_turns hc (by rw [← hcv]; exact hco) T isG nga (by rw [← hcv]; exact hg _ _ _ _ _ _ _) (by rw [← hcv]; exact ht _ _ _ _ _ _ _ (by rw [hcv]; exact hroom)) (by rw [← hcv]; exact he _ _ _ _ _ _ _ (by rw [hcv]; exact hroom)) turn m0 0 (m0 + 1) _ _ H4 (Nat.lt_succ_self _) ?_ (T.keep _ _ _ st4 fun b hb o e => keep5 b o e) (fun b hb => (f4 b hb).1.1) w0
    have := gx_start (A' := X.A.in1.in1.over (.compLoop (.GeneratorExp elt [⟨tg, iter, ifs, 0⟩] scope gpos) 0 (.ref it) .none cenv) []) (code := code) (ga := h'.objs.size) (go := go) (m := fun y => if y = ".0" then some (.ref it) else none)
      (s5 := ({ s4 with gens := s4.gens.push (.fresh (.compStart (.GeneratorExp elt [⟨tg, iter, ifs, 0⟩] scope gpos) 0 (.ref it) .none cenv)), toks := s4.toks + 1 + 1 + 1, heap := h'.push go } : Shared).setGen s4.gens.size .running)
      I4 ok nocell hN f4 (fun _ => hr.hd) (by rw [hcv]; exact hA) rfl (allBare_setGen (s := { s4 with gens := s4.gens.push _, toks := s4.toks + 1 + 1 + 1, heap := h'.push go }) (AllBare.push I4.bare rfl) rfl) keep5 (hn'.push _) (by omega) hgoat (fun v z => by subst hgo; cases z)
    rw [hcv] at this
    exact this
  have lt2 : ∀ b ∈ fp, b < s2.heap.objs.size := fun b hb => by
    obtain ⟨o, e, _⟩ := T.obj _ _ st2 b hb
    exact Heap.lt_size e
  cases hit : codeAmong gpos ps.toList with
  | some cv => exact wpAny_genexprCode_hit hcode (codeH.code oldP tri) hit (owed cv s2 H2 I2 (.refl _) st2 fun b hb => ⟨f2 b hb, lt2 b hb⟩)
  | none =>
    refine wpAny_genexprCodeX hcode (codeH.code oldP tri) (codeH.tab oldP) hit fun c' h3 tk hx hge hlt hco' hrec htab' _ => ?_
    obtain ⟨c2, oc, vs, t, e2, hoc, hdc, hvc⟩ := hrec
    cases e2
    have nC : H2 c' = none := I2.hok.fresh hge
    have k1 : ∀ b u, b ≠ P → s2.heap.get? b = some u → h3.get? b = some u := fun b u hb e => hx b u hb e
    have J0 := LamX.inv_table (q := X.env.qual ++ "<genexpr>") (h' := h3) (t' := tk) I2 tabP k1 htab'.2 hge ⟨oc, vs, t, hoc, hdc, hvc⟩
    have sz3 : s2.heap.objs.size ≤ h3.objs.size := Nat.le_trans hge (Nat.le_of_lt hlt)
    have fpP : ∀ b ∈ fp, b ≠ P := fun b hb e => by
      have := (f2 b hb).1
      rw [e, tabP] at this
      cases this
    have fpc : ∀ b ∈ fp, b ≠ c' := fun b hb e => absurd (lt2 b hb) (by rw [e]; exact Nat.not_lt.mpr hge)
    refine owed _ { s2 with heap := h3, toks := tk } _ J0 (Lb.same_code tabP tri bears nC hmem) (T.keep _ _ _ st2 fun b hb o e => k1 b o (fpP b hb) e) fun b hb => ⟨⟨?_, (f2 b hb).2⟩, Nat.lt_of_lt_of_le (lt2 b hb) sz3⟩
    rw [upd_ne (fpc b hb), upd_ne (fpP b hb)]
    exact (f2 b hb).1
/-- what a generator's scope shows -/
def genOk (scope : Scope) : Bool := !scope.isCoroutine && decide (scope.names.lookup (".0" : Str) = some NameKind.local) && scope.names.all fun y => !decide (y.2 = .cell)
theorem genOk_of {scope : Scope} (h : genOk scope = true) : (∀ y ∈ scope.names, y.2 ≠ .cell) ∧ scope.isCoroutine = false ∧ scope.names.lookup (".0" : Str) = some NameKind.local := by
  unfold genOk at h
  simp only [Bool.and_eq_true, Bool.not_eq_true', decide_eq_true_eq, decide_eq_false_iff_not, List.all_eq_true] at h
  exact ⟨h.2, h.1.1, h.1.2⟩
theorem pe_allB {c P : Addr} {elt tg iter : Expr} {ifs : List Expr} {scope : Scope} {p pos gpos : Pos} {own : List (Str × Nat)} {wi : TI} {g : TG} {tt : TT} {te : TE} {k : Nat}
    (hr : Room (k + 1) X.A) (hc : X.calm = true) (hm : X.mg "all" = none) (hN : X.N.Nodup) (TB : LamX.TabB X.base X.mg c P) (hmem : (P, X.env.qual ++ "<genexpr>") ∈ Tabl.T) (hcode : X.env.code = .ref c) (ok : BlkOk X.N X.env.scope scope own) (B : genOk scope = true)
    (hi : PI X tg iter wi)
    (hg : ∀ (A' : Around) (s : Shared) (H : Hp) (cl : List (Str × Addr)) (C : Addr) (code : Value) (fp : List Addr), PG (gx X A' s H (genEnv scope cl C code builtinsNs X.env) fp) tg g)
    (ht : ∀ (A' : Around) (s : Shared) (H : Hp) (cl : List (Str × Addr)) (C : Addr) (code : Value) (fp : List Addr), Room k A' → PTs (gx X A' s H (genEnv scope cl C code builtinsNs X.env) fp) ifs tt)
    (he : ∀ (A' : Around) (s : Shared) (H : Hp) (cl : List (Str × Addr)) (C : Addr) (code : Value) (fp : List Addr), Room k A' → PE (gx X A' s H (genEnv scope cl C code builtinsNs X.env) fp) elt te)
    (hgl : Gl X "all" := by rfl) (hb : bootBuiltins "all" = some (.builtin "all") := by decide +kernel) (hs : ∀ v, genFold iter X.env v = pure v := by intro _; rfl)
    (hst : starEach [.GeneratorExp elt [⟨tg, iter, ifs, 0⟩] scope gpos] X.env = (false, eval (.GeneratorExp elt [⟨tg, iter, ifs, 0⟩] scope gpos) X.env) :: starEach [] X.env := by rfl) :
    PE X (.Call (.Name "all" p) [.GeneratorExp elt [⟨tg, iter, ifs, 0⟩] scope gpos] [] pos) (tGenB false wi g tt te (own.map (·.2))) := by
  obtain ⟨nocell, hco, hdot⟩ := genOk_of B
  refine ⟨fun pins s σ H Q I h => wpAny_Call_Name_kw (ld_blt I hgl hm hb (PyProof.Rows.callWith_builtin1 ?_ hst (by rfl)))⟩
  rw [hst]
  refine Calls.spliced_cons (gen_made hr hc hN TB hmem hcode ok nocell hco hdot hi hg ht he hs I h fun ga gn m s4 s5 H4 fp isg lim back ready => ?_)
  refine Calls.spliced_nil (call_function_tree F.kind_all F.plain_all F.entry_all (F.args_all1 _) ?_)
  unfold Builtin.«all»
  refine wpAny_bind (m := oneArg "all" _) (wpAny_pure ?_)
  refine wpAny_bind (wpAny_pyIter_gen isg ?_)
  exact wpAny_pure ⟨plainId_quiet F.plain_all_loop _, all_walk hr.hd (by have := hr.dp; omega) (fun s' H' dn q => ⟨.bl true, H', back s' H' dn, rfl, q⟩) (fun s' H' dn q => ⟨.bl false, H', back s' H' dn, rfl, q⟩) m s5 isg lim ready⟩
end
/-- the walk over a list that stays -/
theorem turns_list {K : PySem.W.Frag} {p : Addr} {xs : List V} {sb : Bool} {Fin Cut : Hp → Prop} {g : TG} {tt : TT} {te : TE} {σ : L2.St} {vs : List Nat} {H2 : Hp} (P : Nat → Hp → Prop) (h0 : P 0 H2) (hl : ∀ i H, P i H → SqL K H p xs)
    (step : ∀ i x H, xs[i]? = some x → P i H → g x (wipe σ vs) H fun σ2 H2 => wipe σ2 vs = wipe σ vs ∧ tt σ2 H2 fun b H3 => if b = true then te σ2 H3 fun y H4 => ∃ c, y = .bl c ∧ (c = sb → Cut H4) ∧ (c ≠ sb → P (i + 1) H4) else P (i + 1) H3) (fin : ∀ H, P xs.length H → Fin H) :
    ∃ W : Nat → Nat → Hp → Prop, (∃ m, W 0 m H2) ∧ Turns (Itl K p) sb Fin Cut g tt te σ vs W := by
  refine ⟨fun i m H => m = xs.length - i ∧ i ≤ xs.length ∧ P i H, ⟨xs.length, by omega, Nat.zero_le _, h0⟩, ?_⟩
  rintro i m H ⟨rfl, le, pv⟩
  rcases Nat.lt_or_ge i xs.length with lt | ge
  · refine .inr ⟨⟨xs, _, hl _ _ pv, List.getElem?_eq_getElem lt⟩, P (i + 1), fun H' q => ⟨_, by omega, rfl, lt, q⟩, fun x H' ⟨e, at_⟩ => ?_⟩
    subst e
    exact step i x _ (at_ xs (hl _ _ pv)) pv
  · have e : i = xs.length := by omega
    subst e
    exact .inl ⟨⟨xs, hl _ _ pv, Nat.le_refl _⟩, fin _ pv⟩
end GQ

namespace L2
open PySem PySem.Spec PyProof.Rows
/-! zip of a text and a list: the signs with the items, as many as the shorter one has -/
def Itzm (K : PySem.W.Frag) (x : Str) (b : Addr) : It :=
  ⟨fun i H => ∃ (ys : List V) (y : V), i < x.cps.size ∧ SqL K H b ys ∧ ys[i]? = some y,
    fun i H v H' => ∃ T c y, v = .ref T ∧ H T = none ∧ x.cps[i]? = some c ∧ (∀ ys, SqL K H b ys → ys[i]? = some y) ∧ H' = upd H T (.tup [.str ⟨#[c]⟩, y]),
    fun i H => ∃ ys : List V, SqL K H b ys ∧ i ≤ x.cps.size ∧ i ≤ ys.length ∧ (i = x.cps.size ∨ i = ys.length)⟩
def iZipM (K : PySem.W.Frag) (ta : TA) : TI := fun σ H R => ta σ H fun vs H1 => ∃ x b ys, vs = [.str x, .ref b] ∧ SqL K H1 b ys ∧ R (Itzm K x b) H1
end L2

namespace Lb
open PySem PySem.Spec PyProof.Rows L2
/-! ### readers: their steps, rows, ends -/
abbrev Stp := Option (Str × Int)
abbrev Grid := List (List Stp)
def StpAt (H : Hp) (v : V) : Stp → Prop
  | none => v = .non
  | some (x, q) => ∃ t, v = .ref t ∧ H t = some (.tup [.str x, .int q])
def finV : Option Str → V
  | none => .non
  | some x => .str x
/-- a row of steps, a list or a tuple -/
def RowR (K : PySem.W.Frag) (H : Hp) (v : V) (row : List Stp) : Prop := ∃ p xs, v = .ref p ∧ Own.RowAt K H p xs ∧ Paired (StpAt H) xs row
/-- a list of steps, apart from L -/
def RowL (L : List Addr) (H : Hp) (v : V) (row : List Stp) : Prop := ∃ p xs, v = .ref p ∧ p ∉ L ∧ H p = some (.lst xs) ∧ Paired (StpAt H) xs row
def GridL (L : List Addr) (H : Hp) (M : Addr) (mv : Grid) : Prop := M ∉ L ∧ ∃ rows, H M = some (.lst rows) ∧ Paired (RowL L H) rows mv
structure GoodR (r z f : Str) (mv : Grid) (fin : List (Option Str)) : Prop where
  ar : IsAlpha r
  az : IsAlpha z
  ov : Over z f
  lf : f.length ≤ 400
  n1 : 1 ≤ mv.length
  n64 : mv.length ≤ 64
  row : ∀ row ∈ mv, row.length = r.length
  stp : ∀ row ∈ mv, ∀ x q, some (x, q) ∈ row → Over z x ∧ x.length ≤ 400 ∧ 0 ≤ q ∧ q < (mv.length : Int)
  lfin : fin.length = mv.length
  fin : ∀ x, some x ∈ fin → Over z x ∧ x.length ≤ 400
/-- a reader's parts in a tuple -/
structure RP (L : List Addr) (H : Hp) (p : Addr) (r z f : Str) (mv : Grid) (fin : List (Option Str)) (M F : Addr) : Prop where
  hp : H p = some (.tup [.str r, .str z, .str f, .ref M, .ref F])
  gr : GridL L H M mv
  hf : H F = some (.lst (fin.map finV))
  nf : F ∉ L
def rfs (r z f : Str) (M F : Addr) : List (Str × V) := putF "_finals" (.ref F) (putF "_moves" (.ref M) (putF "_first" (.str f) (putF "_write" (.str z) (putF "_read" (.str r) []))))
/-- a reader -/
structure RA (C : Addr) (L : List Addr) (H : Hp) (m : Addr) (r z f : Str) (mv : Grid) (fin : List (Option Str)) (dx M F : Addr) : Prop where
  ins : H m = some (.ins C dx (rfs r z f M F))
  gr : GridL L H M mv
  hf : H F = some (.lst (fin.map finV))
  nf : F ∉ L
section
variable {r z f : Str} {M F : Addr}
theorem rfs_finals : (rfs r z f M F).lookup ("_finals" : Str) = some (.ref F) := by
  unfold rfs
  rw [lookup_putF, if_pos rfl]
theorem rfs_moves : (rfs r z f M F).lookup ("_moves" : Str) = some (.ref M) := by
  unfold rfs
  rw [lookup_putF, if_neg (by decide +kernel), lookup_putF, if_pos rfl]
theorem rfs_first : (rfs r z f M F).lookup ("_first" : Str) = some (.str f) := by
  unfold rfs
  rw [lookup_putF, if_neg (by decide +kernel), lookup_putF, if_neg (by decide +kernel), lookup_putF, if_pos rfl]
theorem rfs_write : (rfs r z f M F).lookup ("_write" : Str) = some (.str z) := by
  unfold rfs
  rw [lookup_putF, if_neg (by decide +kernel), lookup_putF, if_neg (by decide +kernel), lookup_putF, if_neg (by decide +kernel), lookup_putF, if_pos rfl]
theorem rfs_read : (rfs r z f M F).lookup ("_read" : Str) = some (.str r) := by
  unfold rfs
  rw [lookup_putF, if_neg (by decide +kernel), lookup_putF, if_neg (by decide +kernel), lookup_putF, if_neg (by decide +kernel), lookup_putF, if_neg (by decide +kernel), lookup_putF, if_pos rfl]
end
theorem rfs_none {r z f : Str} {M F : Addr} {x : Str} (h1 : x ≠ "_finals") (h2 : x ≠ "_moves") (h3 : x ≠ "_first") (h4 : x ≠ "_write") (h5 : x ≠ "_read") : (rfs r z f M F).lookup x = none := by
  unfold rfs
  rw [lookup_putF, if_neg h1, lookup_putF, if_neg h2, lookup_putF, if_neg h3, lookup_putF, if_neg h4, lookup_putF, if_neg h5]
  rfl
theorem StpAt.keep {H H' : Hp} {v : V} {m : Stp} (h : StpAt H v m) (k : ∀ t xs, H t = some (.tup xs) → H' t = some (.tup xs)) : StpAt H' v m := by
  match m, h with
  | none, h => exact h
  | some (x, q), ⟨t, e, ht⟩ => exact ⟨t, e, k _ _ ht⟩
theorem stps_keep {H H' : Hp} {xs : List V} {row : List Stp} (h : Paired (StpAt H) xs row) (k : ∀ t xs, H t = some (.tup xs) → H' t = some (.tup xs)) : Paired (StpAt H') xs row := Paired.mapP h fun _ _ q => q.keep k
theorem RowL.same [Tabl] {L : List Addr} {H H' : Hp} {v : V} {row : List Stp} (h : RowL L H v row) (s : Same H H') : RowL L H' v row := by
  obtain ⟨p, xs, e, n, hp, st⟩ := h
  exact ⟨p, xs, e, n, s _ _ hp, stps_keep st fun t xs q => s _ _ q⟩
theorem RowL.but [Tabl] {L : List Addr} {a : Addr} {H H' : Hp} {v : V} {row : List Stp} (h : RowL L H v row) (k : But a H H') (ml : a ∈ L) (nt : ∀ zs, H a ≠ some (.tup zs)) : RowL L H' v row := by
  obtain ⟨p, xs, e, n, hp, st⟩ := h
  exact ⟨p, xs, e, n, k _ _ (fun e => n (by rw [e]; exact ml)) hp, stps_keep st fun t xs q => k _ _ (fun e => nt xs (by rw [← e]; exact q)) q⟩
theorem GridL.same [Tabl] {L : List Addr} {H H' : Hp} {M : Addr} {mv : Grid} (h : GridL L H M mv) (s : Same H H') : GridL L H' M mv := by
  obtain ⟨n, rows, hM, pr⟩ := h
  exact ⟨n, rows, s _ _ hM, Paired.mapP pr fun _ _ q => q.same s⟩
theorem GridL.but [Tabl] {L : List Addr} {a : Addr} {H H' : Hp} {M : Addr} {mv : Grid} (h : GridL L H M mv) (k : But a H H') (ml : a ∈ L) (nt : ∀ zs, H a ≠ some (.tup zs)) : GridL L H' M mv := by
  obtain ⟨n, rows, hM, pr⟩ := h
  exact ⟨n, rows, k _ _ (fun e => n (by rw [e]; exact ml)) hM, Paired.mapP pr fun _ _ q => q.but k ml nt⟩
theorem GridL.weak {L L' : List Addr} {H : Hp} {M : Addr} {mv : Grid} (h : GridL L H M mv) (k : ∀ y ∈ L', y ∈ L) : GridL L' H M mv := by
  obtain ⟨n, rows, hM, pr⟩ := h
  exact ⟨fun z => n (k _ z), rows, hM, Paired.mapP pr fun _ _ ⟨p, xs, e, np, q⟩ => ⟨p, xs, e, fun z => np (k _ z), q⟩⟩
theorem RP.same [Tabl] {L : List Addr} {H H' : Hp} {p : Addr} {r z f : Str} {mv : Grid} {fin : List (Option Str)} {M F : Addr} (h : RP L H p r z f mv fin M F) (s : Same H H') : RP L H' p r z f mv fin M F := ⟨s _ _ h.hp, h.gr.same s, s _ _ h.hf, h.nf⟩
theorem RP.but [Tabl] {L : List Addr} {a : Addr} {H H' : Hp} {p : Addr} {r z f : Str} {mv : Grid} {fin : List (Option Str)} {M F : Addr} (h : RP L H p r z f mv fin M F) (k : But a H H') (ml : a ∈ L) (nt : ∀ zs, H a ≠ some (.tup zs)) : RP L H' p r z f mv fin M F :=
  ⟨k _ _ (fun e => nt _ (by rw [← e]; exact h.hp)) h.hp, h.gr.but k ml nt, k _ _ (fun e => h.nf (by rw [e]; exact ml)) h.hf, h.nf⟩
theorem RP.weak {L L' : List Addr} {H : Hp} {p : Addr} {r z f : Str} {mv : Grid} {fin : List (Option Str)} {M F : Addr} (h : RP L H p r z f mv fin M F) (k : ∀ y ∈ L', y ∈ L) : RP L' H p r z f mv fin M F := ⟨h.hp, h.gr.weak k, h.hf, fun z => h.nf (k _ z)⟩
theorem RA.same [Tabl] {C : Addr} {L : List Addr} {H H' : Hp} {m : Addr} {r z f : Str} {mv : Grid} {fin : List (Option Str)} {dx M F : Addr} (h : RA C L H m r z f mv fin dx M F) (s : Same H H') : RA C L H' m r z f mv fin dx M F := ⟨s _ _ h.ins, h.gr.same s, s _ _ h.hf, h.nf⟩
theorem RA.but [Tabl] {C : Addr} {L : List Addr} {a : Addr} {H H' : Hp} {m : Addr} {r z f : Str} {mv : Grid} {fin : List (Option Str)} {dx M F : Addr} {zs : List V} (h : RA C L H m r z f mv fin dx M F) (k : But a H H') (ml : a ∈ L) (ha : H a = some (.lst zs)) : RA C L H' m r z f mv fin dx M F :=
  ⟨k _ _ (fun e => by rw [← e, h.ins] at ha; cases ha) h.ins, h.gr.but k ml (fun ys e => by rw [ha] at e; cases e), k _ _ (fun e => h.nf (by rw [e]; exact ml)) h.hf, h.nf⟩
theorem RA.weak {C : Addr} {L L' : List Addr} {H : Hp} {m : Addr} {r z f : Str} {mv : Grid} {fin : List (Option Str)} {dx M F : Addr} (h : RA C L H m r z f mv fin dx M F) (k : ∀ y ∈ L', y ∈ L) : RA C L' H m r z f mv fin dx M F := ⟨h.ins, h.gr.weak k, h.hf, fun z => h.nf (k _ z)⟩
theorem RowL.row {K : PySem.W.Frag} {L : List Addr} {H : Hp} {v : V} {row : List Stp} (h : RowL L H v row) : RowR K H v row := let ⟨p, xs, e, _, hp, st⟩ := h; ⟨p, xs, e, .inl hp, st⟩
/-- a new list of new lists -/
def RowN' (H H' : Hp) (N : Addr) (v : V) (row : List Stp) : Prop := ∃ p xs, v = .ref p ∧ H p = none ∧ p ≠ N ∧ H' p = some (.lst xs) ∧ Paired (StpAt H') xs row
def GridN (H H' : Hp) (N : Addr) (mv : Grid) : Prop := H N = none ∧ ∃ rows, H' N = some (.lst rows) ∧ rows.Nodup ∧ Paired (RowN' H H' N) rows mv
theorem GridN.grid {H H' : Hp} {N : Addr} {mv : Grid} {L : List Addr} (h : GridN H H' N mv) (k : ∀ c ∈ L, H c ≠ none) : GridL L H' N mv := by
  obtain ⟨n, rows, hN, nd, pr⟩ := h
  exact ⟨fun z => k _ z n, rows, hN, Paired.mapP pr fun _ _ ⟨p, xs, e, np, _, hp, st⟩ => ⟨p, xs, e, fun z => k _ z np, hp, st⟩⟩
theorem GridN.same [Tabl] {H H1 H2 : Hp} {N : Addr} {mv : Grid} (h : GridN H H1 N mv) (s : Same H1 H2) : GridN H H2 N mv := by
  obtain ⟨n, rows, hN, nd, pr⟩ := h
  exact ⟨n, rows, s _ _ hN, nd, Paired.mapP pr fun _ _ ⟨p, xs, e, np, ne, hp, st⟩ => ⟨p, xs, e, np, ne, s _ _ hp, stps_keep st fun t xs q => s _ _ q⟩⟩
theorem GridN.from [Tabl] {H0 H H1 : Hp} {N : Addr} {mv : Grid} (h : GridN H H1 N mv) (s : Same H0 H) : GridN H0 H1 N mv := by
  obtain ⟨n, rows, hN, nd, pr⟩ := h
  exact ⟨s.free n, rows, hN, nd, Paired.mapP pr fun _ _ ⟨p, xs, e, np, r⟩ => ⟨p, xs, e, s.free np, r⟩⟩
theorem paired_take {α β : Type} {F : α → β → Prop} : ∀ {xs : List α} {ys : List β} (i : Nat), Paired F xs ys → Paired F (xs.take i) (ys.take i)
  | _, _, 0, _ => by rw [List.take_zero, List.take_zero]; exact .nil
  | _, _, _ + 1, .nil => .nil
  | _, _, i + 1, .cons r t => .cons r (paired_take i t)
theorem paired_snoc {α β : Type} {F : α → β → Prop} {x : α} {y : β} : ∀ {xs : List α} {ys : List β}, Paired F xs ys → F x y → Paired F (xs ++ [x]) (ys ++ [y])
  | _, _, .nil, h => .cons h .nil
  | _, _, .cons r t, h => .cons r (paired_snoc t h)
theorem lc_copy [Tabl] {K : PySem.W.Frag} {M : Addr} {rows : List V} {mv : Grid} {L : List Addr} {g : TG} {tt : TT} {te : TE} {vs : List Nat} {σ : L2.St} {H1 : Hp} {D : Addr} {Qd : Hp → Prop} (nD : H1 D = none) (hM : H1 M = some (.lst rows)) (pr : Paired (RowL L H1) rows mv) (small : mv.length ≤ 1000)
    (step : ∀ p xs (H : Hp) (k : VK) (N : Hp → Prop), H p = some (.lst xs) → (∀ q, H q = none → k (.ref q) (upd H q (.lst xs))) → g (.ref p) (wipe σ vs) H fun σ2 H2 => wipe σ2 vs = wipe σ vs ∧ tt σ2 H2 fun b H3 => if b = true then te σ2 H3 k else N H3)
    (hd : ∀ H, Same H1 H → GridN H1 H D mv → Qd H) :
    ∃ W : Nat → Nat → Hp → Prop, (∃ m, W 0 m (upd H1 D (.lst []))) ∧ ∀ i m H, W i m H →
      ((Itl K M).stop i H ∧ Qd H) ∨ ((Itl K M).go i H ∧ ∃ Nx : Hp → Prop, (∀ H', Nx H' → ∃ m', m' < m ∧ W (i + 1) m' H') ∧ ∀ x H', (Itl K M).yld i H x H' → g x (wipe σ vs) H' fun σ2 H2 => wipe σ2 vs = wipe σ vs ∧ tt σ2 H2 fun b H3 =>
        if b = true then te σ2 H3 fun y H4 => ∃ acc, H4 D = some (.lst acc) ∧ acc.length < sizeLine ∧ Nx (upd H4 D (.lst (acc ++ [y]))) else Nx H3) := by
  have lr : rows.length = mv.length := pr.length
  refine lc_list (K := K) (a := M) (xs := rows) (fun i H' => Same H1 H' ∧ ∃ ys, H' D = some (.lst ys) ∧ ys.Nodup ∧ Paired (RowN' H1 H' D) ys (mv.take i)) ⟨same_new nD, [], upd_same, .nil, by rw [List.take_zero]; exact .nil⟩ (fun i H' _ h => .inl (.inl (h.1 _ _ hM))) ?_ ?_
  · rintro i v Hg hv ⟨sg, ys, hD, nd, en⟩
    obtain ⟨row, hrow, p, xs, rfl, _, hp, st⟩ := paired_get pr hv
    have ix := (List.getElem?_eq_some_iff.mp hrow).1
    refine step p xs Hg _ _ (sg _ _ hp) fun q nq => ?_
    have qD : q ≠ D := fun e => by rw [e, hD] at nq; cases nq
    have kq := same_new (o := .lst xs) nq
    have hD' := kq _ _ hD
    refine ⟨ys, hD', ?_, (Same.refl H1).grown nD (sg.trans kq) hD', _, upd_same, ?_, ?_⟩
    · rw [en.length, List.length_take]
      exact Nat.lt_of_le_of_lt (by omega : _ ≤ 1000) (by decide)
    · refine List.nodup_append.mpr ⟨nd, List.nodup_cons.mpr ⟨List.not_mem_nil, .nil⟩, fun u mu v mv' e => ?_⟩
      rw [List.mem_singleton.mp mv'] at e
      subst e
      obtain ⟨i, hi⟩ := List.getElem?_of_mem mu
      obtain ⟨_, _, p', _, ep, _, _, hp', _⟩ := paired_get en hi
      cases ep
      rw [nq] at hp'
      cases hp'
    · have nt : ∀ zs, (upd Hg q (.lst xs)) D ≠ some (.tup zs) := fun zs e => by rw [hD'] at e; cases e
      have kt : ∀ t zs, (upd Hg q (.lst xs)) t = some (.tup zs) → (upd (upd Hg q (.lst xs)) D (.lst (ys ++ [.ref q]))) t = some (.tup zs) := fun t zs e => by rw [upd_ne (fun z => nt zs (by rw [← z]; exact e))]; exact e
      rw [List.take_add_one, hrow]
      refine paired_snoc (Paired.mapP en fun _ _ ⟨p', xs', e, np, ne, hp', st'⟩ => ⟨p', xs', e, np, ne, by rw [upd_ne ne]; exact kq _ _ hp', stps_keep st' fun t zs e => kt _ _ (kq _ _ e)⟩) ⟨q, xs, rfl, sg.free nq, qD, by rw [upd_ne qD]; exact upd_same, stps_keep st fun t zs e => kt _ _ (kq _ _ (sg _ _ e))⟩
  · rintro Hg ⟨sg, ys, hD, nd, en⟩
    rw [List.take_of_length_le (by omega)] at en
    exact hd Hg sg ⟨nD, ys, hD, nd, en⟩
/-- for i, e in enumerate(xs), xs a list that stays -/
theorem for_enumLL {K : PySem.W.Frag} {H : Hp} {p : Addr} {xs : List V} {g : TG} {tb : TS} {D : Ends} {σ : L2.St} (Pv : Nat → L2.St → Hp → Prop) (h0 : Pv 0 σ H) (hs : ∀ i σ H', Pv i σ H' → SqL K H' p xs)
    (go : ∀ i x σ H' T, xs[i]? = some x → Pv i σ H' → H' T = none → g (.ref T) σ (upd H' T (.tup [.int (i : Nat), x])) fun σ2 H2 => tb { D with nx := Pv (i + 1), ct := Pv (i + 1), bk := D.nx } σ2 H2) (stop : ∀ σ H', Pv xs.length σ H' → D.nx σ H') :
    ∃ W : Nat → Nat → L2.St → Hp → Prop, (∃ m, W 0 m σ H) ∧ ∀ i m σ H, W i m σ H →
      ((Ite K p).stop i H ∧ D.nx σ H) ∨ ((Ite K p).go i H ∧ ∃ N : L2.St → Hp → Prop, (∀ σ' H', N σ' H' → ∃ m', m' < m ∧ W (i + 1) m' σ' H') ∧ ∀ x H', (Ite K p).yld i H x H' → g x σ H' fun σ2 H2 => tb { D with nx := N, ct := N, bk := D.nx } σ2 H2) := by
  refine EnT.for_any (n := xs.length) Pv h0 (fun i σ H' lt pv => ?_) (fun σ H' pv => ⟨⟨xs, hs _ _ _ pv, Nat.le_refl _⟩, stop σ H' pv⟩)
  have sq : SqL K H' p xs := hs _ _ _ pv
  refine ⟨⟨xs, _, sq, List.getElem?_eq_getElem lt⟩, fun v H'' ⟨T, x, ev, nT, eH, ex⟩ => ?_⟩
  subst ev
  subst eH
  exact go i x σ H' T (ex xs sq) pv nT
theorem GridN.but [Tabl] {H H1 H2 : Hp} {m N C dx : Addr} {fs : List (Str × V)} {mv : Grid} (h : GridN H H1 N mv) (k : But m H1 H2) (hm : H1 m = some (.ins C dx fs)) : GridN H H2 N mv := by
  obtain ⟨n, rows, hN, nd, pr⟩ := h
  exact ⟨n, rows, k _ _ (fun e => by rw [e, hm] at hN; cases hN) hN, nd, Paired.mapP pr fun _ _ ⟨p, xs, e, np, ne, hp, st⟩ => ⟨p, xs, e, np, ne, k _ _ (fun e => by rw [e, hm] at hp; cases hp) hp, stps_keep st fun t xs q => k _ _ (fun e => by rw [e, hm] at q; cases q) q⟩⟩
theorem GridL.ins [Tabl] {L : List Addr} {H H' : Hp} {m C dx M : Addr} {fs : List (Str × V)} {mv : Grid} (h : GridL L H M mv) (k : But m H H') (hm : H m = some (.ins C dx fs)) : GridL L H' M mv := by
  obtain ⟨n, rows, hM, pr⟩ := h
  exact ⟨n, rows, k _ _ (fun e => by rw [e, hm] at hM; cases hM) hM, Paired.mapP pr fun _ _ ⟨p, xs, e, np, hp, st⟩ => ⟨p, xs, e, np, k _ _ (fun e => by rw [e, hm] at hp; cases hp) hp, stps_keep st fun t xs q => k _ _ (fun e => by rw [e, hm] at q; cases q) q⟩⟩
theorem GridN.len {H H' : Hp} {N : Addr} {mv : Grid} (h : GridN H H' N mv) : ∃ rows, H' N = some (.lst rows) ∧ rows.length = mv.length := let ⟨_, rows, hN, _, pr⟩ := h; ⟨rows, hN, pr.length⟩
/-- what stood but for m, which is new: since H all stands -/
theorem GridN.since [Tabl] {H0 H H1 : Hp} {N m : Addr} {mv : Grid} (h : GridN H H1 N mv) (s : But m H0 H) (ne : ∀ p, H p = none → p ≠ m) : GridN H0 H1 N mv := by
  obtain ⟨n, rows, hN, nd, pr⟩ := h
  exact ⟨s.free n (ne _ n), rows, hN, nd, Paired.mapP pr fun _ _ ⟨p, xs, e, np, r⟩ => ⟨p, xs, e, s.free np (ne _ np), r⟩⟩
/-! ### rows of steps under construction: Ok tells where the rows lie -/
def RowX (Ok : Addr → Prop) (G : Hp) (v : V) (row : List Stp) : Prop := ∃ p xs, v = .ref p ∧ Ok p ∧ G p = some (.lst xs) ∧ Paired (StpAt G) xs row
def RowsAt (Ok : Addr → Prop) (G : Hp) (M : Addr) (mv : Grid) : Prop := ∃ rows, G M = some (.lst rows) ∧ Paired (RowX Ok G) rows mv
section
variable [Tabl] {Ok : Addr → Prop} {G G' : Hp} {M : Addr} {mv : Grid}
theorem RowsAt.same (h : RowsAt Ok G M mv) (s : Same G G') : RowsAt Ok G' M mv := by
  obtain ⟨rows, hM, pr⟩ := h
  exact ⟨rows, s _ _ hM, Paired.mapP pr fun _ _ ⟨p, xs, e, o, hp, st⟩ => ⟨p, xs, e, o, s _ _ hp, stps_keep st fun t zs q => s _ _ q⟩⟩
theorem RowsAt.but {a : Addr} (h : RowsAt Ok G M mv) (k : But a G G') (nt : ∀ zs, G a ≠ some (.tup zs)) (nM : M ≠ a) (no : ∀ p, Ok p → p ≠ a) : RowsAt Ok G' M mv := by
  obtain ⟨rows, hM, pr⟩ := h
  exact ⟨rows, k _ _ nM hM, Paired.mapP pr fun _ _ ⟨p, xs, e, o, hp, st⟩ => ⟨p, xs, e, o, k _ _ (no p o) hp, stps_keep st fun t zs q => k _ _ (fun e => nt zs (by rw [← e]; exact q)) q⟩⟩
theorem RowsAt.put {D : Addr} {zs ys : List V} (h : RowsAt Ok G M mv) (hD : G D = some (.lst zs)) (nM : M ≠ D) (no : ∀ p, Ok p → p ≠ D) : RowsAt Ok (upd G D (.lst ys)) M mv :=
  h.but (But.put hD) (fun ws e => by rw [hD] at e; cases e) nM no
theorem RowsAt.push {R : Addr} {xs : List V} {row : List Stp} {rows : List V} (pr : Paired (RowX Ok G) rows mv) (hM : G M = some (.lst rows)) (hR : G R = some (.lst xs)) (oR : Ok R) (st : Paired (StpAt G) xs row) (no : ∀ p, Ok p → p ≠ M) :
    RowsAt Ok (upd G M (.lst (rows ++ [.ref R]))) M (mv ++ [row]) := by
  have kt : ∀ t zs, G t = some (.tup zs) → (upd G M (.lst (rows ++ [.ref R]))) t = some (.tup zs) := fun t zs q => by rw [upd_ne fun e => by rw [e, hM] at q; cases q]; exact q
  refine ⟨_, upd_same, paired_snoc (Paired.mapP pr fun _ _ ⟨p, xs, e, o, hp, st⟩ => ⟨p, xs, e, o, by rw [upd_ne (no p o)]; exact hp, stps_keep st kt⟩) ⟨R, xs, rfl, oR, by rw [upd_ne (no R oR)]; exact hR, stps_keep st kt⟩⟩
theorem RowsAt.imp {Ok' : Addr → Prop} (h : RowsAt Ok G M mv) (k : ∀ p, Ok p → Ok' p) : RowsAt Ok' G M mv := by
  obtain ⟨rows, hM, pr⟩ := h
  exact ⟨rows, hM, Paired.mapP pr fun _ _ ⟨p, xs, e, o, r⟩ => ⟨p, xs, e, k p o, r⟩⟩
theorem RowsAt.apart {R : Addr} (h : RowsAt Ok G M mv) (nR : G R = none) : RowsAt (fun p => Ok p ∧ p ≠ R) G M mv := by
  obtain ⟨rows, hM, pr⟩ := h
  exact ⟨rows, hM, Paired.mapP pr fun _ _ ⟨p, xs, e, o, hp, st⟩ => ⟨p, xs, e, ⟨o, fun e => by rw [e, nR] at hp; cases hp⟩, hp, st⟩⟩
theorem RowsAt.grid {L : List Addr} (h : RowsAt Ok G M mv) (nM : M ∉ L) (no : ∀ p, Ok p → p ∉ L) : GridL L G M mv := by
  obtain ⟨rows, hM, pr⟩ := h
  exact ⟨nM, rows, hM, Paired.mapP pr fun _ _ ⟨p, xs, e, o, r⟩ => ⟨p, xs, e, no p o, r⟩⟩
end
theorem stps_snoc {H H' : Hp} {xs : List V} {row : List Stp} {v : V} {m : Stp} (h : Paired (StpAt H) xs row) (k : ∀ t zs, H t = some (.tup zs) → H' t = some (.tup zs)) (hv : StpAt H v m) : Paired (StpAt H') (xs ++ [v]) (row ++ [m]) := paired_snoc (stps_keep h k) (hv.keep k)
/-- a step is good -/
def StpOk (z : Str) (n : Int) (m : Stp) : Prop := ∀ x q, m = some (x, q) → Over z x ∧ x.length ≤ 3 ∧ 0 ≤ q ∧ q < n
/-- how long the words of a reader are -/
def Short (k : Nat) (f : Str) (mv : Grid) (fin : List (Option Str)) : Prop := f.length ≤ k ∧ (∀ row ∈ mv, ∀ x q, some (x, q) ∈ row → x.length ≤ k) ∧ ∀ x, some x ∈ fin → x.length ≤ k
/-! ### lists of lists of ints, and their edges -/
def IntRows (H : Hp) (rows : List V) (gs : List (List Int)) : Prop := Paired (fun v (g : List Int) => ∃ p, v = .ref p ∧ H p = some (.lst (g.map V.int))) rows gs
theorem IntRows.same [Tabl] {H H' : Hp} {rows : List V} {gs : List (List Int)} (h : IntRows H rows gs) (s : Same H H') : IntRows H' rows gs := Paired.mapP h fun _ _ ⟨p, e, hp⟩ => ⟨p, e, s _ _ hp⟩
def rowE (gs : List (List Int)) : List (Int × Int) := (gs.zipIdx.map fun e => e.1.map fun j => (((e.2 : Nat) : Int), j)).flatten
end Lb

namespace Lb
open PySem PySem.Spec PyProof.Rows L2
/-! ### the parts of readers: alike, kept -/
theorem plain_samed {n : Nat} {H : Hp} {x : V} (h : plainV x = true) : SameD n H x x := by
  cases n with
  | zero => exact .inl ⟨rfl, h⟩
  | succ n => exact .inl ⟨rfl, h⟩
theorem step_samed {n : Nat} {H : Hp} {x y : V} {m : Stp} (h : StpAt H x m) (k : StpAt H y m) : SameD (n + 1) H x y := by
  match m, h, k with
  | none, h, k =>
    have h : x = .non := h
    have k : y = .non := k
    rw [h, k]
    exact plain_samed rfl
  | some (w, q), ⟨t, e, ht⟩, ⟨u, e', hu⟩ =>
    subst e
    subst e'
    refine .inr ⟨t, u, _, _, rfl, rfl, .inl ⟨ht, hu⟩, rfl, by show 2 ≤ 4000000; decide, fun i a b ea eb => ?_⟩
    rw [ea] at eb
    cases eb
    match i, ea with
    | 0, rfl => exact plain_samed rfl
    | 1, rfl => exact plain_samed rfl
theorem paired_both {α β : Type} {F G : α → β → Prop} {P : α → α → Prop} {xs ys : List α} {zs : List β} (h : Paired F xs zs) (k : Paired G ys zs) (f : ∀ a b c, F a c → G b c → P a b) : ∀ (i : Nat) (a b : α), xs[i]? = some a → ys[i]? = some b → P a b := by
  intro i a b ea eb
  obtain ⟨c, hc, fa⟩ := paired_get h ea
  obtain ⟨c', hc', gb⟩ := paired_get k eb
  rw [hc] at hc'
  cases hc'
  exact f a b c fa gb
theorem rows_alike {n : Nat} {H : Hp} {L L' : List Addr} {x y : V} {row : List Stp} (l : row.length ≤ 1000) (h : RowL L H x row) (k : RowL L' H y row) : SameD (n + 2) H x y := by
  obtain ⟨p, xs, rfl, _, hp, st⟩ := h
  obtain ⟨q, ys, rfl, _, hq, st'⟩ := k
  have l1 := st.length
  have l2 := st'.length
  exact .inr ⟨p, q, xs, ys, rfl, rfl, .inr ⟨hp, hq⟩, by omega, by omega, paired_both st st' fun a b c ha hb => step_samed ha hb⟩
theorem grid_alike {n : Nat} {H : Hp} {L L' : List Addr} {M M' : Addr} {mv : Grid} (l : mv.length ≤ 1000) (lr : ∀ row ∈ mv, row.length ≤ 1000) (h : GridL L H M mv) (k : GridL L' H M' mv) : SameD (n + 3) H (.ref M) (.ref M') := by
  obtain ⟨_, rows, hM, pr⟩ := h
  obtain ⟨_, rows', hM', pr'⟩ := k
  have l1 := pr.length
  have l2 := pr'.length
  refine .inr ⟨M, M', rows, rows', rfl, rfl, .inr ⟨hM, hM'⟩, by omega, by omega, fun i a b ea eb => ?_⟩
  obtain ⟨c, hc, fa⟩ := paired_get pr ea
  obtain ⟨c', hc', gb⟩ := paired_get pr' eb
  rw [hc] at hc'
  cases hc'
  exact rows_alike (lr c (List.mem_of_getElem? hc)) fa gb
theorem fin_plain (fin : List (Option Str)) : ∀ v ∈ fin.map finV, plainV v = true := fun v m => by
  obtain ⟨o, _, rfl⟩ := List.mem_map.mp m
  cases o <;> rfl
theorem flat_alike {n : Nat} {H : Hp} {F F' : Addr} {xs : List V} (h : H F = some (.lst xs)) (k : H F' = some (.lst xs)) (pl : ∀ v ∈ xs, plainV v = true) (l : xs.length ≤ 1000) : SameD (n + 1) H (.ref F) (.ref F') := by
  refine .inr ⟨F, F', _, _, rfl, rfl, .inr ⟨h, k⟩, rfl, by omega, fun i a b ea eb => ?_⟩
  rw [ea] at eb
  cases eb
  exact plain_samed (pl a (List.mem_of_getElem? ea))
theorem rp_samed {n : Nat} {H : Hp} {L L' : List Addr} {p p' : Addr} {r z f : Str} {mv : Grid} {fin : List (Option Str)} {M F M' F' : Addr} (g : GoodR r z f mv fin) (h : RP L H p r z f mv fin M F) (k : RP L' H p' r z f mv fin M' F') : SameD (n + 4) H (.ref p) (.ref p') := by
  have n64 := g.n64
  have lf := g.lfin
  have l4 := g.ar.len4
  refine .inr ⟨p, p', _, _, rfl, rfl, .inl ⟨h.hp, k.hp⟩, rfl, by show 5 ≤ 4000000; decide, fun i a b ea eb => ?_⟩
  match i, ea, eb with
  | 0, rfl, rfl => exact plain_samed rfl
  | 1, rfl, rfl => exact plain_samed rfl
  | 2, rfl, rfl => exact plain_samed rfl
  | 3, rfl, rfl => exact grid_alike (by omega) (fun row m => by rw [g.row row m]; omega) h.gr k.gr
  | 4, rfl, rfl => exact flat_alike h.hf k.hf (fin_plain fin) (by rw [List.length_map]; omega)
theorem step_of_samed {n : Nat} {H : Hp} {x y : V} {m : Stp} (h : SameD (n + 1) H x y) (k : StpAt H y m) : StpAt H x m := by
  match m, k with
  | none, k =>
    have k : y = .non := k
    subst k
    exact samed_plain h rfl
  | some (w, q), ⟨u, e, hu⟩ =>
    subst e
    obtain ⟨t, xs, rfl, ht, l, r⟩ := samed_tup h hu
    refine ⟨t, rfl, ?_⟩
    match xs, l, ht, r with
    | [a, b], _, ht, r =>
      rw [show a = .str w from samed_plain (r 0 _ _ rfl rfl) rfl, show b = .int q from samed_plain (r 1 _ _ rfl rfl) rfl] at ht
      exact ht
theorem paired_of {α β : Type} {F : α → β → Prop} : ∀ {xs : List α} {ys : List β}, xs.length = ys.length → (∀ (i : Nat) (a : α) (b : β), xs[i]? = some a → ys[i]? = some b → F a b) → Paired F xs ys
  | [], [], _, _ => .nil
  | x :: xs, y :: ys, l, h => .cons (h 0 x y rfl rfl) (paired_of (Nat.succ.inj l) fun i a b ea eb => h (i + 1) a b ea eb)
theorem row_of_samed {n : Nat} {H : Hp} {L L' : List Addr} {x y : V} {row : List Stp} (h : SameD (n + 2) H x y) (k : RowL L H y row) (d : ∀ b ∈ L', Deep b (n + 2) H x) : RowL L' H x row := by
  obtain ⟨q, ys, rfl, _, hq, st⟩ := k
  obtain ⟨p, xs, rfl, hp, l, r⟩ := samed_lst h hq
  have ls := st.length
  refine ⟨p, xs, rfl, fun m => deep_ne (d p m) rfl, hp, paired_of (by omega) fun i a m ea em => ?_⟩
  obtain ⟨b, eb, sb⟩ := paired_get2 st em
  exact step_of_samed (r i a b ea eb) sb
theorem grid_of_samed {n : Nat} {H : Hp} {L L' : List Addr} {x : V} {M : Addr} {mv : Grid} (h : SameD (n + 3) H x (.ref M)) (k : GridL L H M mv) (d : ∀ b ∈ L', Deep b (n + 3) H x) : ∃ N, x = .ref N ∧ GridL L' H N mv := by
  obtain ⟨_, ys, hM, pr⟩ := k
  obtain ⟨N, xs, rfl, hN, l, r⟩ := samed_lst h hM
  have lp := pr.length
  refine ⟨N, rfl, fun m => deep_ne (d N m) rfl, xs, hN, paired_of (by omega) fun i a row ea er => ?_⟩
  obtain ⟨b, eb, sb⟩ := paired_get2 pr er
  exact row_of_samed (r i a b ea eb) sb fun c mc => deep_in (d c mc) (.inl hN) (List.mem_of_getElem? ea)
theorem rp_of_samed {n : Nat} {H : Hp} {L L' : List Addr} {x : V} {p : Addr} {r z f : Str} {mv : Grid} {fin : List (Option Str)} {M F : Addr} (h : SameD (n + 4) H x (.ref p)) (k : RP L H p r z f mv fin M F) (d : ∀ b ∈ L', Deep b (n + 4) H x) : ∃ u N G, x = .ref u ∧ RP L' H u r z f mv fin N G := by
  obtain ⟨u, xs, rfl, hu, l, rr⟩ := samed_tup h k.hp
  match xs, l, hu, rr with
  | [a, b, c, v, w], _, hu, rr =>
    have e1 : a = .str r := samed_plain (rr 0 _ _ rfl rfl) rfl
    have e2 : b = .str z := samed_plain (rr 1 _ _ rfl rfl) rfl
    have e3 : c = .str f := samed_plain (rr 2 _ _ rfl rfl) rfl
    have dv : ∀ t ∈ L', Deep t (n + 3) H v := fun t m => deep_in (d t m) (.inr hu) (by simp)
    have dw : ∀ t ∈ L', Deep t (n + 3) H w := fun t m => deep_in (d t m) (.inr hu) (by simp)
    obtain ⟨N, rfl, gN⟩ := grid_of_samed (rr 3 _ _ rfl rfl) k.gr dv
    obtain ⟨G, ys, rfl, hG, lG, rG⟩ := samed_lst (rr 4 _ _ rfl rfl) k.hf
    have eG : ys = fin.map finV := by
      refine List.ext_getElem? fun i => ?_
      by_cases hi : i < ys.length
      · have e5 : (fin.map finV)[i]? = some ((fin.map finV)[i]'(by omega)) := List.getElem?_eq_getElem (by omega)
        rw [e5, List.getElem?_eq_getElem hi, samed_plain (rG i _ _ (List.getElem?_eq_getElem hi) e5) (fin_plain fin _ (List.getElem_mem _))]
      · rw [List.getElem?_eq_none (by omega), List.getElem?_eq_none (by omega)]
    rw [eG] at hG
    rw [e1, e2, e3] at hu
    exact ⟨u, N, G, rfl, hu, gN, hG, fun m => deep_ne (dw G m) rfl⟩
/-! ### what is apart from a list -/
theorem deep_plain {b : Addr} {n : Nat} {H : Hp} {x : V} (h : plainV x = true) (hs : ∀ y : Str, x = .str y → y.length ≤ 4000000) (hi : ∀ i : Int, x = .int i → i.natAbs < 2 ^ 13000) : Deep b n H x := by
  cases n with
  | zero => exact .inl ⟨h, hs, hi⟩
  | succ n => exact .inl ⟨h, hs, hi⟩
theorem deep_text {b : Addr} {n : Nat} {H : Hp} {x : Str} (h : x.length ≤ 1000) : Deep b n H (.str x) := deep_plain rfl (fun y e => by cases e; omega) (fun i e => by cases e)
theorem deep_step {b : Addr} {n : Nat} {H : Hp} {v : V} {m : Stp} (h : StpAt H v m) (nt : ∀ zs, H b ≠ some (.tup zs)) (l : ∀ x q, m = some (x, q) → x.length ≤ 400 ∧ 0 ≤ q ∧ q < 64) : Deep b (n + 1) H v := by
  match m, h, l with
  | none, h, _ =>
    have h : v = .non := h
    rw [h]
    exact deep_plain rfl (fun y e => by cases e) (fun i e => by cases e)
  | some (w, q), ⟨t, e, ht⟩, l =>
    subst e
    obtain ⟨l1, q0, q1⟩ := l w q rfl
    refine .inr ⟨t, _, rfl, fun e => nt _ (by rw [← e]; exact ht), .inr ht, by show 2 ≤ 4000000; decide, fun x mx => ?_⟩
    simp only [List.mem_cons, List.not_mem_nil, or_false] at mx
    rcases mx with rfl | rfl
    · exact deep_text (by omega)
    · exact deep_plain rfl (fun y e => by cases e) (fun i e => by cases e; exact small_pow (by omega))
theorem rp_deep {n : Nat} {b : Addr} {H : Hp} {L : List Addr} {p : Addr} {r z f : Str} {mv : Grid} {fin : List (Option Str)} {M F : Addr} (g : GoodR r z f mv fin) (k : RP L H p r z f mv fin M F) (m : b ∈ L) (nt : ∀ zs, H b ≠ some (.tup zs)) : Deep b (n + 4) H (.ref p) := by
  have n64 := g.n64
  have lf := g.lf
  have l4 := g.ar.len4
  have z4 := g.az.len4
  have lfin := g.lfin
  obtain ⟨hp, ⟨nM, rows, hM, pr⟩, hF, nF⟩ := k
  have lr := pr.length
  refine .inr ⟨p, _, rfl, fun e => nt _ (by rw [← e]; exact hp), .inr hp, by show 5 ≤ 4000000; decide, fun x mx => ?_⟩
  simp only [List.mem_cons, List.not_mem_nil, or_false] at mx
  rcases mx with rfl | rfl | rfl | rfl | rfl
  · exact deep_text (by omega)
  · exact deep_text (by omega)
  · exact deep_text (by omega)
  · refine .inr ⟨M, _, rfl, fun e => nM (by rw [e]; exact m), .inl hM, by omega, fun v mv' => ?_⟩
    obtain ⟨i, hi⟩ := List.getElem?_of_mem mv'
    obtain ⟨row, hrow, q, xs, rfl, nq, hq, st⟩ := paired_get pr hi
    have ls := st.length
    have mrow := List.mem_of_getElem? hrow
    have lrow := g.row row mrow
    refine .inr ⟨q, _, rfl, fun e => nq (by rw [e]; exact m), .inl hq, by omega, fun u mu => ?_⟩
    obtain ⟨j, hj⟩ := List.getElem?_of_mem mu
    obtain ⟨s, hs, sa⟩ := paired_get st hj
    exact deep_step sa nt fun x q' e => by
      have h := g.stp row mrow x q' (by rw [← e]; exact List.mem_of_getElem? hs)
      exact ⟨h.2.1, h.2.2.1, by have := h.2.2.2; omega⟩
  · refine .inr ⟨F, _, rfl, fun e => nF (by rw [e]; exact m), .inl hF, by rw [List.length_map]; omega, fun v mv' => ?_⟩
    obtain ⟨o, mo, rfl⟩ := List.mem_map.mp mv'
    cases o with
    | none => exact deep_plain rfl (fun y e => by cases e) (fun i e => by cases e)
    | some x => exact deep_text (by have := (g.fin x mo).2; omega)
section
variable [Tabl] {L : List Addr} {H H' : Hp} {mv : Grid} {fin : List (Option Str)} {r z f : Str} {M F : Addr}
theorem RowL.butl {v : V} {row : List Stp} (h : RowL L H v row) (k : ButL L H H') : RowL L H' v row := by
  obtain ⟨p, xs, e, n, hp, st⟩ := h
  exact ⟨p, xs, e, n, k.row hp n, stps_keep st fun t zs q => k.tup q⟩
theorem GridL.butl (h : GridL L H M mv) (k : ButL L H H') : GridL L H' M mv := by
  obtain ⟨n, rows, hM, pr⟩ := h
  exact ⟨n, rows, k.row hM n, Paired.mapP pr fun _ _ q => q.butl k⟩
theorem RP.butl {p : Addr} (h : RP L H p r z f mv fin M F) (k : ButL L H H') : RP L H' p r z f mv fin M F := ⟨k.tup h.hp, h.gr.butl k, k.row h.hf h.nf, h.nf⟩
theorem RA.butl {C m dx : Addr} (h : RA C L H m r z f mv fin dx M F) (k : ButL L H H') : RA C L H' m r z f mv fin dx M F := ⟨k.ins h.ins, h.gr.butl k, k.row h.hf h.nf, h.nf⟩
end
/-- the addresses of a list's rows -/
def refsOf (rows : List V) : List Addr := rows.filterMap fun v => match v with | .ref p => some p | _ => none
end Lb

namespace Lb
open PySem PySem.Spec PyProof.Rows L2
/-! ### z.index(c), c one sign that stands in z -/
theorem occ_atS (s sub : Str) (hi limit : Nat) : ∀ (l : List Nat) (st : Array Nat × Nat), (∀ j ∈ st.fst.toList, j + sub.length ≤ hi ∧ Builtin.Str.subAt s sub j = true) → ∀ j ∈ (forIn l st (StrLaws.occBody s sub hi limit)).run.fst.toList, j + sub.length ≤ hi ∧ Builtin.Str.subAt s sub j = true
  | [], _, h => h
  | a :: l, st, h => by
    rw [List.forIn_cons]
    unfold StrLaws.occBody
    split
    · rename_i hc
      refine occ_atS s sub hi limit l _ fun j hj => ?_
      rw [Array.toList_push] at hj
      rcases List.mem_append.mp hj with m | m
      · exact h j m
      · rw [List.mem_singleton.mp m]
        exact ⟨hc.1.2, hc.2⟩
    · exact occ_atS s sub hi limit l _ h
theorem occ_one {z : Str} {c : Nat} (nd : (cs z).Nodup) (m : c ∈ cs z) : ∃ rest, Builtin.Str.occurrences z ⟨#[c]⟩ 0 z.length 1 = (cs z).idxOf c :: rest := by
  cases e : Builtin.Str.occurrences z ⟨#[c]⟩ 0 z.length 1 with
  | nil =>
    have f := StrLaws.found_one z c
    rw [decide_eq_true (show c ∈ z.cps.toList from m), e] at f
    cases f
  | cons k tl =>
    have mk : k ∈ Builtin.Str.occurrences z ⟨#[c]⟩ 0 z.length 1 := by
      rw [e]
      exact List.mem_cons_self ..
    rw [StrLaws.occ_eq] at mk
    have hk : (cs z)[k]? = some c := (StrLaws.subAt_one z c k).mp (occ_atS z ⟨#[c]⟩ _ 1 _ _ (fun j hj => absurd hj (by simp)) k mk)
    obtain ⟨lk, ek⟩ := List.getElem?_eq_some_iff.mp hk
    have : (cs z).idxOf c = k := by
      rw [← ek]
      exact nd.idxOf_getElem k lk
    exact ⟨tl, by rw [this]⟩
def rIdxS : V → List V → Hp → VK → Prop := fun x xs H Q => ∃ (z : Str) (c : Nat), x = .str z ∧ xs = [.str (⟨#[c]⟩ : Str)] ∧ (cs z).Nodup ∧ c ∈ cs z ∧ Q (.int ((cs z).idxOf c : Nat)) H
theorem mt_sindex {X : Cx} : MtR X "str.index" rIdxS := by
  intro pins s σ H x xs v us Q I rx rs h
  obtain ⟨z, c, rfl, rfl, nd, m, q⟩ := h
  obtain ⟨t, rfl⟩ := rx
  cases rs with
  | cons r1 rs =>
    cases rs
    obtain ⟨u, rfl⟩ := r1
    obtain ⟨rest, e⟩ := occ_one nd m
    exact PySem.SC.index e ⟨.int ((cs z).idxOf c : Nat), H, I.tok _, ⟨_, rfl⟩, q⟩
end Lb

namespace Lb
open PySem PySem.Spec PyProof.Rows L2
/-! ### a reader's own walk -/
/-- the move from s by c -/
def stpR (cs0 : List Nat) (mv : Grid) (s c : Nat) : Stp := (mv[s]?.bind fun row => row[cs0.idxOf c]?).join
def stepR (cs0 : List Nat) (mv : Grid) (o : Option (Nat × Str)) (c : Nat) : Option (Nat × Str) := o.bind fun e => (stpR cs0 mv e.1 c).map fun m => (m.2.toNat, e.2 ++ m.1)
def runR (cs0 : List Nat) (mv : Grid) (s : Nat) (u : List Nat) : Option (Nat × Str) := u.foldl (stepR cs0 mv) (some (s, Str.ofString ""))
def tailR (cs0 : List Nat) (mv : Grid) (fin : List (Option Str)) (s : Nat) (u : List Nat) : Option Str := (runR cs0 mv s u).bind fun e => (fin[e.1]?.join).map fun x => e.2 ++ x
def tellR (cs0 : List Nat) (f : Str) (mv : Grid) (fin : List (Option Str)) (u : List Nat) : Option Str := (tailR cs0 mv fin 0 u).map fun x => f ++ x
def stV : Option (Nat × Str) → V
  | none => .non
  | some e => .int (e.1 : Int)
def wrV (f : Str) : Option (Nat × Str) → V
  | none => .non
  | some e => .str (f ++ e.2)
theorem runR_snoc (cs0 : List Nat) (mv : Grid) (s : Nat) (u : List Nat) (c : Nat) : runR cs0 mv s (u ++ [c]) = stepR cs0 mv (runR cs0 mv s u) c := by
  unfold runR
  rw [List.foldl_append]
  rfl
theorem stpR_at {cs0 : List Nat} {mv : Grid} {s c j : Nat} {row : List Stp} {m : Stp} (hs : mv[s]? = some row) (hj : cs0.idxOf c = j) (hm : row[j]? = some m) : stpR cs0 mv s c = m := by
  unfold stpR
  rw [hs]
  show (row[cs0.idxOf c]?).join = m
  rw [hj, hm]
  rfl
theorem idx_lt {r : Str} {c : Nat} (h : c ∈ cs r) : (cs r).idxOf c < r.length := by
  rw [← cs_len]
  exact List.idxOf_lt_length_of_mem h
/-- the row and the move that are looked at -/
theorem GoodR.look {r z f : Str} {mv : Grid} {fin : List (Option Str)} (g : GoodR r z f mv fin) {s c : Nat} (hs : s < mv.length) (hc : c ∈ cs r) : ∃ row, mv[s]? = some row ∧ row[(cs r).idxOf c]? = some (stpR (cs r) mv s c) := by
  have h1 : mv[s]? = some mv[s] := List.getElem?_eq_getElem hs
  have l := g.row _ (List.getElem_mem hs)
  have lt := idx_lt hc
  have h2 : mv[s][(cs r).idxOf c]? = some (mv[s][(cs r).idxOf c]'(by omega)) := List.getElem?_eq_getElem _
  exact ⟨_, h1, by rw [stpR_at h1 rfl h2]; exact h2⟩
theorem GoodR.step {r z f : Str} {mv : Grid} {fin : List (Option Str)} (g : GoodR r z f mv fin) {s c : Nat} {x : Str} {q : Int} (h : stpR (cs r) mv s c = some (x, q)) : Over z x ∧ x.length ≤ 400 ∧ 0 ≤ q ∧ q < (mv.length : Int) := by
  unfold stpR at h
  cases e : mv[s]? with
  | none => rw [e] at h; cases h
  | some row =>
    rw [e] at h
    have h : (row[(cs r).idxOf c]?).join = some (x, q) := h
    cases e2 : row[(cs r).idxOf c]? with
    | none => rw [e2] at h; cases h
    | some m =>
      rw [e2] at h
      have h : m = some (x, q) := h
      subst h
      exact g.stp row (List.mem_of_getElem? e) x q (List.mem_of_getElem? e2)
theorem snoc_ind {α : Type} {P : List α → Prop} (h0 : P []) (h1 : ∀ u c, P u → P (u ++ [c])) (u : List α) : P u := by
  rw [← List.reverse_reverse u]
  induction u.reverse with
  | nil => exact h0
  | cons c v ih =>
    rw [List.reverse_cons]
    exact h1 _ _ ih
theorem GoodR.run {r z f : Str} {mv : Grid} {fin : List (Option Str)} (g : GoodR r z f mv fin) {s : Nat} (hs : s < mv.length) (u : List Nat) : ∀ {e : Nat × Str}, runR (cs r) mv s u = some e → e.1 < mv.length ∧ Over z e.2 ∧ e.2.length ≤ 400 * u.length := by
  induction u using snoc_ind with
  | h0 =>
    intro e h
    have h : some (s, Str.ofString "") = some e := h
    cases h
    exact ⟨hs, Over.empty, Nat.zero_le _⟩
  | h1 u c ih =>
    intro e h
    rw [runR_snoc] at h
    cases e1 : runR (cs r) mv s u with
    | none => rw [e1] at h; cases h
    | some e0 =>
      rw [e1] at h
      obtain ⟨h1, h2, h3⟩ := ih e1
      obtain ⟨⟨x, q⟩, hm, rfl⟩ := Option.map_eq_some_iff.mp h
      obtain ⟨ox, lx, q0, q1⟩ := g.step hm
      refine ⟨by show q.toNat < _; omega, h2.app ox, ?_⟩
      show (e0.2 ++ x).length ≤ _
      rw [length_app, List.length_append]
      show _ ≤ 400 * (u.length + 1)
      omega
theorem GoodR.tail {r z f : Str} {mv : Grid} {fin : List (Option Str)} (g : GoodR r z f mv fin) {s : Nat} (hs : s < mv.length) {u : List Nat} {x : Str} (h : tailR (cs r) mv fin s u = some x) : Over z x ∧ x.length ≤ 400 * u.length + 400 := by
  unfold tailR at h
  cases hr : runR (cs r) mv s u with
  | none => rw [hr] at h; cases h
  | some e =>
    rw [hr] at h
    obtain ⟨v, hv, rfl⟩ := Option.map_eq_some_iff.mp h
    obtain ⟨_, oe, le⟩ := g.run hs u hr
    have mv' : some v ∈ fin := by
      cases e2 : fin[e.1]? with
      | none => rw [e2] at hv; cases hv
      | some m =>
        rw [e2] at hv
        have hv : m = some v := hv
        exact hv ▸ List.mem_of_getElem? e2
    obtain ⟨ox, lx⟩ := g.fin v mv'
    refine ⟨oe.app ox, ?_⟩
    rw [length_app]
    omega
theorem GoodR.tell {r z f : Str} {mv : Grid} {fin : List (Option Str)} (g : GoodR r z f mv fin) {u : List Nat} {x : Str} (h : tellR (cs r) f mv fin u = some x) : Over z x ∧ x.length ≤ 400 * u.length + 800 := by
  obtain ⟨w, hw, rfl⟩ := Option.map_eq_some_iff.mp h
  obtain ⟨o, l⟩ := g.tail (by have := g.n1; omega) hw
  have lf := g.lf
  refine ⟨g.ov.app o, ?_⟩
  rw [length_app]
  omega
end Lb

namespace Own
open PySem PySem.Spec PyProof.Rows L2 ItX
/-! ### list(o) of an own instance with __len__ whose __iter__ tells a list's iterator -/
section
variable {X : Cx} {pins : List (Addr × Obj)} {σ : L2.St} {H : Hp} {s : Shared} {C f fl a : Addr} {fd fdl : FuncData} {ps psl : List Str} {sp : Sp} {n : Nat} {E : XK}
/-- list(o) -/
def rListO (n : Nat) (C : Addr) (spN : Nat → Sp) (spl : Sp) (E : XK) : List V → Hp → VK → Prop := fun xs H Q => ∃ a dx fs, xs = [.ref a] ∧ H a = some (.ins C dx fs) ∧ ∀ q, H q = none → ∀ z, n ≤ z → spN z [.ref a] (upd H q (.lst [])) (fun v H2 => ∃ it l ys, v = .ref it ∧ n ≤ it ∧ H2 it = some (ItO l it 0) ∧ H2 a = some (.ins C dx fs) ∧
  spl [.ref a] H2 (fun v H' => ∃ i : Int, v = .int i ∧ 0 ≤ i ∧ i < 2 ^ 63 ∧ ∃ j : Int, V.int i = .int j ∧ j.toNat ≤ sizeLine ∧ q ≠ it ∧ q ≠ l ∧ l ≠ it ∧ H' it = some (ItO l it 0) ∧ H' q = some (.lst []) ∧ H' l = some (.lst ys) ∧ ys.length < sizeLine ∧ Q (.ref q) (upd (dropH H' it) q (.lst ys))) E) E
end
end Own

namespace Lb
open PySem PySem.Spec PyProof.Rows L2
/-! ### sessions of a reader -/
theorem putF_putF {f : Str} {v u : V} : ∀ fs : List (Str × V), putF f u (putF f v fs) = putF f u fs
  | [] => by
    show (if f = f then _ else _) = _
    rw [if_pos rfl]
    rfl
  | (g, x) :: r => by
    show putF f u (if g = f then _ else _) = (if g = f then _ else _)
    by_cases h : g = f
    · rw [if_pos h, if_pos h]
      show (if g = f then _ else _) = _
      rw [if_pos h]
    · rw [if_neg h, if_neg h]
      show (if g = f then _ else _) = _
      rw [if_neg h, putF_putF r]
def sfs (m : Addr) (r f : Str) (M F P S : Addr) (c : Bool) : List (Str × V) :=
  putF "_closed" (.bl c) (putF "_states" (.ref S) (putF "_pushed" (.ref P) (putF "_lasts" (.ref F) (putF "_lines" (.ref M) (putF "_first" (.str f) (putF "_alphabet" (.str r) (putF "_reader" (.ref m) [])))))))
theorem sfs_put {m : Addr} {r f : Str} {M F P S : Addr} {c d : Bool} : putF "_closed" (.bl d) (sfs m r f M F P S c) = sfs m r f M F P S d := putF_putF _
theorem sfs_len {m : Addr} {r f : Str} {M F P S : Addr} {c : Bool} : (sfs m r f M F P S c).length < 1000 := Nat.lt_of_le_of_lt (lenF (k := 7) (lenF (k := 6) (lenF (k := 5) (lenF (k := 4) (lenF (k := 3) (lenF (k := 2) (lenF (k := 1) (lenF (k := 0) (Nat.le_refl _))))))))) (by decide)
section
variable {m : Addr} {r f : Str} {M F P S : Addr} {c : Bool}
theorem sfs_closed : (sfs m r f M F P S c).lookup ("_closed" : Str) = some (.bl c) := by
  unfold sfs
  rw [lookup_putF, if_pos rfl]
theorem sfs_states : (sfs m r f M F P S c).lookup ("_states" : Str) = some (.ref S) := by
  unfold sfs
  rw [lookup_putF, if_neg (by decide +kernel), lookup_putF, if_pos rfl]
theorem sfs_pushed : (sfs m r f M F P S c).lookup ("_pushed" : Str) = some (.ref P) := by
  unfold sfs
  rw [lookup_putF, if_neg (by decide +kernel), lookup_putF, if_neg (by decide +kernel), lookup_putF, if_pos rfl]
theorem sfs_lasts : (sfs m r f M F P S c).lookup ("_lasts" : Str) = some (.ref F) := by
  unfold sfs
  rw [lookup_putF, if_neg (by decide +kernel), lookup_putF, if_neg (by decide +kernel), lookup_putF, if_neg (by decide +kernel), lookup_putF, if_pos rfl]
theorem sfs_lines : (sfs m r f M F P S c).lookup ("_lines" : Str) = some (.ref M) := by
  unfold sfs
  rw [lookup_putF, if_neg (by decide +kernel), lookup_putF, if_neg (by decide +kernel), lookup_putF, if_neg (by decide +kernel), lookup_putF, if_neg (by decide +kernel), lookup_putF, if_pos rfl]
theorem sfs_first : (sfs m r f M F P S c).lookup ("_first" : Str) = some (.str f) := by
  unfold sfs
  rw [lookup_putF, if_neg (by decide +kernel), lookup_putF, if_neg (by decide +kernel), lookup_putF, if_neg (by decide +kernel), lookup_putF, if_neg (by decide +kernel), lookup_putF, if_neg (by decide +kernel), lookup_putF, if_pos rfl]
theorem sfs_alphabet : (sfs m r f M F P S c).lookup ("_alphabet" : Str) = some (.str r) := by
  unfold sfs
  rw [lookup_putF, if_neg (by decide +kernel), lookup_putF, if_neg (by decide +kernel), lookup_putF, if_neg (by decide +kernel), lookup_putF, if_neg (by decide +kernel), lookup_putF, if_neg (by decide +kernel), lookup_putF, if_neg (by decide +kernel), lookup_putF, if_pos rfl]
theorem sfs_none {x : Str} (h1 : x ≠ "_closed") (h2 : x ≠ "_states") (h3 : x ≠ "_pushed") (h4 : x ≠ "_lasts") (h5 : x ≠ "_lines") (h6 : x ≠ "_first") (h7 : x ≠ "_alphabet") (h8 : x ≠ "_reader") : (sfs m r f M F P S c).lookup x = none := by
  unfold sfs
  rw [lookup_putF, if_neg h1, lookup_putF, if_neg h2, lookup_putF, if_neg h3, lookup_putF, if_neg h4, lookup_putF, if_neg h5, lookup_putF, if_neg h6, lookup_putF, if_neg h7, lookup_putF, if_neg h8]
  rfl
theorem sfs_push : (sfs m r f M F P S c).lookup ("push" : Str) = none := sfs_none (by decide +kernel) (by decide +kernel) (by decide +kernel) (by decide +kernel) (by decide +kernel) (by decide +kernel) (by decide +kernel) (by decide +kernel)
theorem sfs_reads : (sfs m r f M F P S c).lookup ("reads" : Str) = none := sfs_none (by decide +kernel) (by decide +kernel) (by decide +kernel) (by decide +kernel) (by decide +kernel) (by decide +kernel) (by decide +kernel) (by decide +kernel)
theorem sfs_close : (sfs m r f M F P S c).lookup ("close" : Str) = none := sfs_none (by decide +kernel) (by decide +kernel) (by decide +kernel) (by decide +kernel) (by decide +kernel) (by decide +kernel) (by decide +kernel) (by decide +kernel)
theorem sfs_back : (sfs m r f M F P S c).lookup ("back" : Str) = none := sfs_none (by decide +kernel) (by decide +kernel) (by decide +kernel) (by decide +kernel) (by decide +kernel) (by decide +kernel) (by decide +kernel) (by decide +kernel)
end
/-- what has been pushed, the states before, the state now -/
inductive Trk (cs0 : List Nat) (mv : Grid) : List (Nat × Str) → List Nat → Nat → Prop
  | nil : Trk cs0 mv [] [] 0
  | snoc {ps qs q c x t} : Trk cs0 mv ps qs q → c ∈ cs0 → stpR cs0 mv q c = some (x, t) → Trk cs0 mv (ps ++ [(c, x)]) (qs ++ [q]) t.toNat
def pcV (e : Nat × Str) : List V := [.str (⟨#[e.1]⟩ : Str), .str e.2]
def takS (ps : List (Nat × Str)) : Str := Txt.join (Str.ofString "") (ps.map fun e => (⟨#[e.1]⟩ : Str))
def wrtS (ps : List (Nat × Str)) : Str := Txt.join (Str.ofString "") (ps.map Prod.snd)
def stL (qs : List Nat) (q : Nat) : List V := (qs.map fun q : Nat => V.int (q : Int)) ++ [.int (q : Int)]
theorem join0_snoc (ws : List Str) (x : Str) : Txt.join (Str.ofString "") (ws ++ [x]) = Txt.join (Str.ofString "") ws ++ x := cs_ext (by rw [cs_app, cs_join0, cs_join0, List.map_append, List.flatten_append]; simp)
theorem wrtS_snoc (ps : List (Nat × Str)) (c : Nat) (x : Str) : wrtS (ps ++ [(c, x)]) = wrtS ps ++ x := by
  unfold wrtS
  rw [List.map_append]
  exact join0_snoc _ _
theorem cs_takS (ps : List (Nat × Str)) : cs (takS ps) = ps.map Prod.fst := by
  unfold takS
  rw [cs_join0]
  induction ps with
  | nil => rfl
  | cons e ps ih =>
    rw [List.map_cons, List.map_cons, List.flatten_cons, ih, cs_one]
    rfl
theorem takS_len (ps : List (Nat × Str)) : (takS ps).length = ps.length := by rw [← cs_len, cs_takS, List.length_map]
theorem Trk.len {cs0 : List Nat} {mv : Grid} {ps : List (Nat × Str)} {qs : List Nat} {q : Nat} (h : Trk cs0 mv ps qs q) : qs.length = ps.length := by
  induction h with
  | nil => rfl
  | snoc _ _ _ ih => rw [List.length_append, List.length_append, ih]; rfl
theorem Trk.run {cs0 : List Nat} {mv : Grid} {ps : List (Nat × Str)} {qs : List Nat} {q : Nat} (h : Trk cs0 mv ps qs q) : runR cs0 mv 0 (ps.map Prod.fst) = some (q, wrtS ps) := by
  induction h with
  | nil => rfl
  | snoc h _ e ih =>
    rw [List.map_append]
    show runR _ _ _ (_ ++ [_]) = _
    rw [runR_snoc, ih, wrtS_snoc]
    show (stpR _ _ _ _).map _ = _
    rw [e]
    rfl
theorem Trk.lt {r z f : Str} {mv : Grid} {fin : List (Option Str)} {ps : List (Nat × Str)} {qs : List Nat} {q : Nat} (h : Trk (cs r) mv ps qs q) (g : GoodR r z f mv fin) : q < mv.length ∧ Over z (wrtS ps) ∧ (wrtS ps).length ≤ 400 * ps.length := by
  have k := g.run (s := 0) (by have := g.n1; omega) _ h.run
  rw [List.length_map] at k
  exact k
theorem Trk.mem {r z f : Str} {mv : Grid} {fin : List (Option Str)} {ps : List (Nat × Str)} {qs : List Nat} {q : Nat} (h : Trk (cs r) mv ps qs q) (g : GoodR r z f mv fin) : ∀ e ∈ ps, e.1 ∈ cs r ∧ Over z e.2 ∧ e.2.length ≤ 400 := by
  induction h with
  | nil => intro e m; cases m
  | snoc h mc hs ih =>
    intro e m
    rcases List.mem_append.mp m with m | m
    · exact ih e m
    · rw [List.mem_singleton.mp m]
      have k := g.step hs
      exact ⟨mc, k.1, k.2.1⟩
/-- what a session's open word ends with -/
def lastV (c : Bool) (o : Option Str) : V := if c then finV o else .str (Str.ofString "")
structure SeA (C : Addr) (L : List Addr) (H : Hp) (s : Addr) (r f : Str) (mv : Grid) (fin : List (Option Str)) (dx m M F P S : Addr) (ps : List (Nat × Str)) (qs : List Nat) (q : Nat) (c : Bool) : Prop where
  ins : H s = some (.ins C dx (sfs m r f M F P S c))
  gr : GridL (P :: S :: L) H M mv
  hf : H F = some (.lst (fin.map finV))
  nf : F ∉ P :: S :: L
  hp : ∃ xs, H P = some (.lst xs) ∧ EntL pcV H xs ps
  hs : H S = some (.lst (stL qs q))
  ne : P ≠ S
  nP : P ∉ L
  nS : S ∉ L
  tk : Trk (cs r) mv ps qs q
  cl : c = true → ∃ x, fin[q]? = some (some x)
/-- all but the instance at s and the lists at L stands -/
structure ButI [Tabl] (s : Addr) (L : List Addr) (H H' : Hp) : Prop where
  old : ∀ b o, H b = some o → b ≠ s → (∀ xs, o = .lst xs → b ∉ L) → NoT o → H' b = some o
  lst : ∀ b xs, H b = some (.lst xs) → ∃ ys, H' b = some (.lst ys)
  ins : H s ≠ none → H' s ≠ none
  tab : ∀ b ps, H b = some (.tbl ps) → ∃ qs, H' b = some (.tbl qs)
  good : Good H → Good H'
section
variable [Tabl] {s : Addr} {L : List Addr} {H H1 H' : Hp}
theorem ButI.same (k : Same H H') : ButI s L H H' := ⟨fun b o h _ _ t => k.old b o h t, fun b xs h => ⟨xs, k _ _ h⟩, fun h e => h (k.free e), k.tab, k.good⟩
theorem ButI.trans (p : ButI s L H H1) (q : ButI s L H1 H') : ButI s L H H' :=
  ⟨fun b o h n l k => q.old b o (p.old b o h n l k) n l k, fun b xs h => let ⟨ys, e⟩ := p.lst b xs h; q.lst b ys e, fun h => q.ins (p.ins h), fun b ps h => let ⟨qs, e⟩ := p.tab b ps h; q.tab b qs e, fun g => q.good (p.good g)⟩
theorem ButI.butl (k : ButL L H H') : ButI s L H H' := ⟨fun b o h _ l t => k.old b o h l t, k.lst, fun h e => h (k.free e), k.tab, k.good⟩
theorem ButI.but {C dx : Addr} {fs : List (Str × V)} (k : But s H H') (h : H s = some (.ins C dx fs)) (h' : H' s ≠ none) : ButI s L H H' :=
  ⟨fun b o e n _ t => k.old b o n e t, fun b xs e => ⟨xs, k _ _ (fun z => by rw [z, h] at e; cases e) e⟩, fun _ => h', k.tab, k.good⟩
theorem ButI.tup (k : ButI s L H H') {b C dx : Addr} {fs : List (Str × V)} {xs : List V} (hs : H s = some (.ins C dx fs)) (h : H b = some (.tup xs)) : H' b = some (.tup xs) := k.old b _ h (fun e => by rw [e, hs] at h; cases h) (fun _ z => by cases z) (fun _ z => by cases z)
theorem ButI.insOf (k : ButI s L H H') {b C dx : Addr} {fs : List (Str × V)} (n : b ≠ s) (h : H b = some (.ins C dx fs)) : H' b = some (.ins C dx fs) := k.old b _ h n (fun _ z => by cases z) (fun _ z => by cases z)
theorem ButI.row (k : ButI s L H H') {b C dx : Addr} {fs : List (Str × V)} {xs : List V} (hs : H s = some (.ins C dx fs)) (h : H b = some (.lst xs)) (n : b ∉ L) : H' b = some (.lst xs) := k.old b _ h (fun e => by rw [e, hs] at h; cases h) (fun _ _ => n) (fun _ z => by cases z)
theorem ButI.free (k : ButI s L H H') {p : Addr} (n : H' p = none) : H p = none := by
  cases e : H p with
  | none => rfl
  | some o =>
    by_cases ps : p = s
    · subst ps
      exact absurd n (k.ins (by rw [e]; exact fun z => by cases z))
    by_cases t : ∃ ps, o = .tbl ps
    · obtain ⟨ps, rfl⟩ := t
      obtain ⟨qs, e'⟩ := k.tab _ _ e
      rw [e'] at n
      cases n
    · by_cases l : ∃ xs, o = .lst xs
      · obtain ⟨xs, rfl⟩ := l
        obtain ⟨ys, e'⟩ := k.lst _ _ e
        rw [e'] at n
        cases n
      · rw [k.old _ _ e ps (fun xs z => absurd ⟨xs, z⟩ l) (fun ps z => t ⟨ps, z⟩)] at n
        cases n
theorem ButI.held (k : ButI s L H H') {b : Addr} (h : H b ≠ none) : H' b ≠ none := fun e => h (k.free e)
theorem ButI.more {L' : List Addr} (k : ButI s L H H') (h : ∀ b ∈ L, b ∈ L') : ButI s L' H H' := ⟨fun b o e n l t => k.old b o e n (fun xs z m => l xs z (h b m)) t, k.lst, k.ins, k.tab, k.good⟩
theorem EntL.buti {α : Type} {img : α → List V} {xs : List V} {es : List α} {C dx : Addr} {fs : List (Str × V)} (hs : H s = some (.ins C dx fs)) (h : EntL img H xs es) (k : ButI s L H H') : EntL img H' xs es := Paired.mapP h fun _ _ ⟨t, e, q⟩ => ⟨t, e, k.tup hs q⟩
theorem GridL.buti {L' : List Addr} {M C dx : Addr} {mv : Grid} {fs : List (Str × V)} (hs : H s = some (.ins C dx fs)) (h : GridL L' H M mv) (k : ButI s L H H') (hL : ∀ b ∈ L, b ∈ L') : GridL L' H' M mv := by
  obtain ⟨n, rows, hM, pr⟩ := h
  exact ⟨n, rows, k.row hs hM (fun z => n (hL _ z)), Paired.mapP pr fun _ _ ⟨p, xs, e, np, hp, st⟩ => ⟨p, xs, e, np, k.row hs hp (fun z => np (hL _ z)), stps_keep st fun t zs q => k.tup hs q⟩⟩
theorem RP.buti {L' : List Addr} {p : Addr} {r z f : Str} {mv : Grid} {fin : List (Option Str)} {M F C dx : Addr} {fs : List (Str × V)} (hs : H s = some (.ins C dx fs)) (h : RP L' H p r z f mv fin M F) (k : ButI s L H H') (hL : ∀ b ∈ L, b ∈ L') : RP L' H' p r z f mv fin M F :=
  ⟨k.tup hs h.hp, h.gr.buti hs k hL, k.row hs h.hf (fun z => h.nf (hL _ z)), h.nf⟩
theorem RA.buti {L' : List Addr} {m : Addr} {r z f : Str} {mv : Grid} {fin : List (Option Str)} {M F C C' dx dy : Addr} {fs : List (Str × V)} (hs : H s = some (.ins C dx fs)) (n : m ≠ s) (h : RA C' L' H m r z f mv fin dy M F) (k : ButI s L H H') (hL : ∀ b ∈ L, b ∈ L') : RA C' L' H' m r z f mv fin dy M F :=
  ⟨k.insOf n h.ins, h.gr.buti hs k hL, k.row hs h.hf (fun z => h.nf (hL _ z)), h.nf⟩
variable {C : Addr} {r f : Str} {mv : Grid} {fin : List (Option Str)} {dx m M F P S : Addr} {ps : List (Nat × Str)} {qs : List Nat} {q : Nat} {c : Bool} {L0 : List Addr}
theorem SeA.same (h : SeA C L0 H s r f mv fin dx m M F P S ps qs q c) (k : Same H H') : SeA C L0 H' s r f mv fin dx m M F P S ps qs q c :=
  ⟨k _ _ h.ins, h.gr.same k, k _ _ h.hf, h.nf, let ⟨xs, e, en⟩ := h.hp; ⟨xs, k _ _ e, en.same k⟩, k _ _ h.hs, h.ne, h.nP, h.nS, h.tk, h.cl⟩
/-- another session has changed -/
theorem SeA.buti {s' C' dy : Addr} {fs : List (Str × V)} (h : SeA C L0 H s r f mv fin dx m M F P S ps qs q c) (hs : H s' = some (.ins C' dy fs)) (n : s ≠ s') (k : ButI s' L H H') (hL : ∀ b ∈ L, b ∈ L0) : SeA C L0 H' s r f mv fin dx m M F P S ps qs q c :=
  ⟨k.insOf n h.ins, h.gr.buti hs k (fun b m => by simp [hL b m]), k.row hs h.hf (fun z => h.nf (by simp [hL _ z])), h.nf, let ⟨xs, e, en⟩ := h.hp; ⟨xs, k.row hs e (fun z => h.nP (hL _ z)), en.buti hs k⟩, k.row hs h.hs (fun z => h.nS (hL _ z)), h.ne, h.nP, h.nS, h.tk, h.cl⟩
theorem SeA.but {a : Addr} {zs : List V} (h : SeA C L0 H s r f mv fin dx m M F P S ps qs q c) (k : But a H H') (ma : a ∈ L0) (ha : H a = some (.lst zs)) : SeA C L0 H' s r f mv fin dx m M F P S ps qs q c := by
  have nt : ∀ ws, H a ≠ some (.tup ws) := fun ws e => by rw [ha] at e; cases e
  exact ⟨k _ _ (fun e => by rw [← e, h.ins] at ha; cases ha) h.ins, h.gr.but k (by simp [ma]) nt, k _ _ (fun e => h.nf (by rw [e]; simp [ma])) h.hf, h.nf,
    let ⟨xs, e, en⟩ := h.hp; ⟨xs, k _ _ (fun e => h.nP (by rw [e]; exact ma)) e, Paired.mapP en fun _ _ ⟨t, e, q⟩ => ⟨t, e, k _ _ (fun z => nt _ (by rw [← z]; exact q)) q⟩⟩, k _ _ (fun e => h.nS (by rw [e]; exact ma)) h.hs, h.ne, h.nP, h.nS, h.tk, h.cl⟩
theorem SeA.weak {L1 : List Addr} (h : SeA C L0 H s r f mv fin dx m M F P S ps qs q c) (k : ∀ b ∈ L1, b ∈ L0) : SeA C L1 H s r f mv fin dx m M F P S ps qs q c :=
  have k' : ∀ b ∈ P :: S :: L1, b ∈ P :: S :: L0 := fun b m => by
    simp only [List.mem_cons] at m ⊢
    exact m.imp id fun m => m.imp id (k b)
  ⟨h.ins, h.gr.weak k', h.hf, fun z => h.nf (k' _ z), h.hp, h.hs, h.ne, fun z => h.nP (k _ z), fun z => h.nS (k _ z), h.tk, h.cl⟩
end
/-- what is new is apart -/
theorem grid_more {L : List Addr} {W : Addr} {H : Hp} {M : Addr} {mv : Grid} (h : GridL L H M mv) (n : H W = none) : GridL (W :: L) H M mv := by
  obtain ⟨nM, rows, hM, pr⟩ := h
  have ap : ∀ {q : Addr} {xs : List V}, H q = some (.lst xs) → q ∉ L → q ∉ W :: L := fun {q xs} hq nq m => by
    rcases List.mem_cons.mp m with e | m
    · rw [e, n] at hq; cases hq
    · exact nq m
  exact ⟨ap hM nM, rows, hM, Paired.mapP pr fun _ _ ⟨q, xs, e, nq, hq, st⟩ => ⟨q, xs, e, ap hq nq, hq, st⟩⟩
theorem apart_more {L : List Addr} {W q : Addr} {H : Hp} {o : HO} (n : H W = none) (hq : H q = some o) (nq : q ∉ L) : q ∉ W :: L := fun m => by
  rcases List.mem_cons.mp m with e | m
  · rw [e, n] at hq; cases hq
  · exact nq m
theorem RP.more {L : List Addr} {W : Addr} {H : Hp} {p : Addr} {r z f : Str} {mv : Grid} {fin : List (Option Str)} {M F : Addr} (h : RP L H p r z f mv fin M F) (n : H W = none) : RP (W :: L) H p r z f mv fin M F := ⟨h.hp, grid_more h.gr n, h.hf, apart_more n h.hf h.nf⟩
theorem RA.more {L : List Addr} {W C dx : Addr} {H : Hp} {m : Addr} {r z f : Str} {mv : Grid} {fin : List (Option Str)} {M F : Addr} (h : RA C L H m r z f mv fin dx M F) (n : H W = none) : RA C (W :: L) H m r z f mv fin dx M F := ⟨h.ins, grid_more h.gr n, h.hf, apart_more n h.hf h.nf⟩
theorem SeA.more {C : Addr} {L : List Addr} {W : Addr} {H : Hp} {s : Addr} {r f : Str} {mv : Grid} {fin : List (Option Str)} {dx m M F P S : Addr} {ps : List (Nat × Str)} {qs : List Nat} {q : Nat} {c : Bool} (h : SeA C L H s r f mv fin dx m M F P S ps qs q c) (n : H W = none) : SeA C (W :: L) H s r f mv fin dx m M F P S ps qs q c := by
  obtain ⟨xs, hp, en⟩ := h.hp
  have k : ∀ b ∈ P :: S :: W :: L, b ∈ W :: P :: S :: L := fun b m => by
    simp only [List.mem_cons] at m ⊢
    rcases m with m | m | m | m
    · exact .inr (.inl m)
    · exact .inr (.inr (.inl m))
    · exact .inl m
    · exact .inr (.inr (.inr m))
  exact ⟨h.ins, (grid_more h.gr n).weak k, h.hf, fun z => apart_more n h.hf h.nf (k _ z), ⟨xs, hp, en⟩, h.hs, h.ne, apart_more n hp h.nP, apart_more n h.hs h.nS, h.tk, h.cl⟩
/-- C() was raised -/
def RaisedN [Tabl] (H : Hp) (C : Addr) (E : XK) : Prop := ∀ H', Same H H' → E (.ref C) none H'
theorem RaisedN.same [Tabl] {H H1 : Hp} {C : Addr} {E : XK} (r : RaisedN H C E) (s : Same H H1) : RaisedN H1 C E := fun H' k => r H' (s.trans k)
/-- [.. for .. in xs], xs a list of tuples, the values plain -/
theorem lc_vals9 [Tabl] {K : PySem.W.Frag} {α : Type} {img : α → List V} {val : α → V} {c : Addr} {xs : List V} {es : List α} {g : TG} {tt : TT} {te : TE} {vs : List Nat} {σ : L2.St} {H1 : Hp} {D : Addr} {Qd : Hp → Prop} (hl : H1 c = some (.lst xs)) (en : EntL img H1 xs es) (le : es.length ≤ 9000) (nD : H1 D = none)
    (step : ∀ t e (H : Hp) (k : VK) (N : Hp → Prop), e ∈ es → Same H1 H → H t = some (.tup (img e)) → k (val e) H → g (.ref t) (wipe σ vs) H fun σ2 H2 => wipe σ2 vs = wipe σ vs ∧ tt σ2 H2 fun b H3 => if b = true then te σ2 H3 k else N H3)
    (hd : ∀ H, Same H1 H → H D = some (.lst (es.map val)) → Qd H) :
    ∃ W : Nat → Nat → Hp → Prop, (∃ m, W 0 m (upd H1 D (.lst []))) ∧ ∀ i m H, W i m H →
      ((Itl K c).stop i H ∧ Qd H) ∨ ((Itl K c).go i H ∧ ∃ Nx : Hp → Prop, (∀ H', Nx H' → ∃ m', m' < m ∧ W (i + 1) m' H') ∧ ∀ x H', (Itl K c).yld i H x H' → g x (wipe σ vs) H' fun σ2 H2 => wipe σ2 vs = wipe σ vs ∧ tt σ2 H2 fun b H3 =>
        if b = true then te σ2 H3 fun y H4 => ∃ acc, H4 D = some (.lst acc) ∧ acc.length < sizeLine ∧ Nx (upd H4 D (.lst (acc ++ [y]))) else Nx H3) := by
  refine lc_list (K := K) (a := c) (xs := xs) (fun i H' => Same H1 H' ∧ H' D = some (.lst ((es.take i).map val))) ⟨same_new nD, upd_same⟩ (fun i H' _ h => .inl (.inl (h.1 _ _ hl))) ?_ ?_
  · rintro i v Hg hv ⟨sg, hDg⟩
    obtain ⟨x, t, hx, rfl, ht⟩ := en.get hv
    have ix := (List.getElem?_eq_some_iff.mp hx).1
    refine step t x Hg _ _ (List.mem_of_getElem? hx) sg (sg _ _ ht) ⟨_, hDg, ?_, Same.grown (.refl H1) nD sg hDg, ?_⟩
    · rw [List.length_map, List.length_take]
      exact Nat.lt_of_le_of_lt (by omega : _ ≤ 9000) (by decide)
    · rw [upd_same, List.take_add_one, hx, List.map_append]
      rfl
  · rintro Hg ⟨sg, hDg⟩
    rw [List.take_of_length_le (by rw [en.len]; exact Nat.le_refl _)] at hDg
    exact hd Hg sg hDg
/-- two tuples of the same plain values -/
theorem tup_alike {n : Nat} {H : Hp} {t t2 : Addr} {xs : List V} (h1 : H t = some (.tup xs)) (h2 : H t2 = some (.tup xs)) (pl : ∀ v ∈ xs, plainV v = true) (l : xs.length ≤ 1000) : SameD (n + 1) H (.ref t) (.ref t2) :=
  .inr ⟨t, t2, _, _, rfl, rfl, .inl ⟨h1, h2⟩, rfl, by omega, fun i x y hx hy => by
    rw [hx] at hy
    cases hy
    exact plain_samed (pl x (List.mem_of_getElem? hx))⟩
/-- a test whose continuation is met on more than one way -/
theorem gen_k {t : TT} {σ : L2.St} {H : Hp} {Q : Bool → Hp → Prop} (P : (Bool → Hp → Prop) → Prop) (h1 : P Q) (h2 : ∀ Q', P Q' → t σ H Q') : t σ H Q := h2 Q h1
/-- two lists of the same entries -/
theorem ents_alike {α : Type} {img : α → List V} {n : Nat} {H : Hp} {l l2 : Addr} {xs ys : List V} {es : List α} (h1 : H l = some (.lst xs)) (h2 : H l2 = some (.lst ys)) (e1 : EntL img H xs es) (e2 : EntL img H ys es) (pl : ∀ e ∈ es, ∀ v ∈ img e, plainV v = true) (li : ∀ e ∈ es, (img e).length ≤ 1000) (lb : es.length ≤ 9000) : SameD (n + 2) H (.ref l) (.ref l2) := by
  have lx := e1.len
  have ly := e2.len
  refine .inr ⟨l, l2, _, _, rfl, rfl, .inr ⟨h1, h2⟩, by omega, by omega, fun i x y hx hy => ?_⟩
  obtain ⟨e, t, he, rfl, ht⟩ := e1.get hx
  obtain ⟨e', t', he', rfl, ht'⟩ := e2.get hy
  rw [he] at he'
  cases he'
  have me := List.mem_of_getElem? he
  exact tup_alike ht ht' (pl e me) (li e me)
/-- what has been made since may change -/
theorem ButI.young [Tabl] {s W : Addr} {L : List Addr} {H H1 H2 : Hp} (k : ButI s L H H1) (b : But W H1 H2) (n : H W = none) (hw : H2 W ≠ none) : ButI s L H H2 := by
  refine ⟨fun c o e nc l t => b.old c o (fun z => by rw [z, n] at e; cases e) (k.old c o e nc l t) t, fun c xs e => ?_, fun h e => ?_, fun c ps e => let ⟨qs, f⟩ := k.tab c ps e; b.tab c qs f, fun g => b.good (k.good g)⟩
  · obtain ⟨ys, e'⟩ := k.lst c xs e
    exact ⟨ys, b _ _ (fun z => by rw [z, n] at e; cases e) e'⟩
  · have sw : s ≠ W := fun z => h (by rw [z]; exact n)
    exact k.ins h (b.free e sw)
/-- a session is no reader -/
theorem se_ne {C C' : Addr} {L L' : List Addr} {H : Hp} {s m : Addr} {r r' z f f' : Str} {mv mv' : Grid} {fin fin' : List (Option Str)} {dx dy m' M F P S M1 F1 : Addr} {ps : List (Nat × Str)} {qs : List Nat} {q : Nat} {c : Bool} (h : SeA C L H s r f mv fin dx m' M F P S ps qs q c) (a : RA C' L' H m r' z f' mv' fin' dy M1 F1) : m ≠ s := fun e => by
  have k := a.ins
  rw [e, h.ins] at k
  obtain ⟨_, _, e3⟩ := HO.ins.inj (Option.some.inj k)
  have k1 : (sfs m' r f M F P S c).lookup ("_closed" : Str) = some (.bl c) := sfs_closed
  rw [e3, rfs_none (by decide +kernel) (by decide +kernel) (by decide +kernel) (by decide +kernel) (by decide +kernel)] at k1
  cases k1
theorem Trk.inv {cs0 : List Nat} {mv : Grid} {ps : List (Nat × Str)} {qs : List Nat} {q : Nat} (h : Trk cs0 mv ps qs q) : (ps = [] ∧ qs = [] ∧ q = 0) ∨ ∃ ps' qs' q' c x t, ps = ps' ++ [(c, x)] ∧ qs = qs' ++ [q'] ∧ q = Int.toNat t ∧ Trk cs0 mv ps' qs' q' ∧ c ∈ cs0 ∧ stpR cs0 mv q' c = some (x, t) := by
  cases h with
  | nil => exact .inl ⟨rfl, rfl, rfl⟩
  | snoc h mc e => exact .inr ⟨_, _, _, _, _, _, rfl, rfl, rfl, h, mc, e⟩
/-- what stands ahead of a letter that was pushed -/
theorem Trk.at_ {cs0 : List Nat} {mv : Grid} {ps : List (Nat × Str)} {qs : List Nat} {q : Nat} (h : Trk cs0 mv ps qs q) : ∀ {i : Nat} {e : Nat × Str}, ps[i]? = some e → ∃ (s : Nat) (t : Int), e.1 ∈ cs0 ∧ stpR cs0 mv s e.1 = some (e.2, t) ∧ runR cs0 mv 0 ((ps.take i).map Prod.fst) = some (s, wrtS (ps.take i)) ∧ runR cs0 mv 0 ((ps.take (i + 1)).map Prod.fst) = some (t.toNat, wrtS (ps.take (i + 1))) := by
  induction h with
  | nil => intro i e h; cases h
  | @snoc ps qs q c x t h mc hs ih =>
    intro i e he
    by_cases lt : i < ps.length
    · rw [List.getElem?_append_left lt] at he
      rw [List.take_append_of_le_length (by omega), List.take_append_of_le_length (by omega)]
      exact ih he
    · have il : i = ps.length := by
        have := (List.getElem?_eq_some_iff.mp he).1
        rw [List.length_append, List.length_singleton] at this
        omega
      subst il
      have ee : e = (c, x) := by
        rw [List.getElem?_append_right (Nat.le_refl _), Nat.sub_self] at he
        exact (Option.some.inj he).symm
      subst ee
      rw [List.take_append_of_le_length (Nat.le_refl _), List.take_of_length_le (Nat.le_refl _), List.take_of_length_le (by rw [List.length_append, List.length_singleton]; omega)]
      exact ⟨q, t, mc, hs, h.run, (Trk.snoc h mc hs).run⟩
/-- what is apart from what has changed -/
theorem Deep.buti [Tabl] {s C dx : Addr} {fs : List (Str × V)} {L : List Addr} {H H' : Hp} {b : Addr} (hs : H s = some (.ins C dx fs)) (k : ButI s L H H') : ∀ {n : Nat} {v : V}, Deep b n H v → (∀ c ∈ L, Deep c n H v) → Deep b n H' v
  | 0, v, h, g => h.elim .inl fun ⟨p, xs, e, ne, o, l, r⟩ => by
      subst e
      refine .inr ⟨p, xs, rfl, ne, o.elim (fun z => .inl (k.row hs z fun m => ?_)) (fun z => .inr (k.tup hs z)), l, r⟩
      exact (deep_ref (g p m) (.inl z)).1 rfl
  | n + 1, v, h, g => h.elim .inl fun ⟨p, xs, e, ne, o, l, r⟩ => by
      subst e
      refine .inr ⟨p, xs, rfl, ne, o.elim (fun z => .inl (k.row hs z fun m => ?_)) (fun z => .inr (k.tup hs z)), l, fun x mx => Deep.buti hs k (r x mx) fun c mc => (deep_ref (g c mc) o).2 n rfl x mx⟩
      exact (deep_ref (g p m) (.inl z)).1 rfl
theorem sto_buti [Tabl] {s C dx : Addr} {fs : List (Str × V)} {L : List Addr} {H H' : Hp} {a c : Addr} (hs : H s = some (.ins C dx fs)) (h : Sto H a c) (k : ButI s L H H') (na : a ∉ L) (nc : c ∉ L) : Sto H' a c := by
  obtain ⟨ns, i, b, t, u, h1, h2, h3, h4⟩ := h
  exact ⟨ns, i, b, t, u, k.row hs h1 na, k.row hs h2 nc, h3, h4⟩
end Lb

namespace Lb
open PySem PySem.Spec PyProof.Rows L2
/-! ### deeds of a session -/
inductive Deed
  | push (v : V)
  | close
  | back
def deedV : Deed → List V
  | .push v => [.str (Str.ofString "push"), v]
  | .close => [.str (Str.ofString "close")]
  | .back => [.str (Str.ofString "back")]
/-- what a deed pushes is apart from what Z tells -/
def DeedN [Tabl] (Z : Addr → Prop) (G : Hp) (ds : List Deed) : Prop := ∀ v, Deed.push v ∈ ds → ∀ c, Z c → Deep c 2 G v
/-- what a deed answers and leaves -/
inductive Does (cs0 : List Nat) (mv : Grid) (fin : List (Option Str)) : List (Nat × Str) → List Nat → Nat → Bool → Deed → List V → List (Nat × Str) → List Nat → Nat → Bool → Prop
  | bad {ps qs q c v} : (¬ ∃ ch, ch ∈ cs0 ∧ v = .str (⟨#[ch]⟩ : Str)) → Does cs0 mv fin ps qs q c (.push v) [.str (Str.ofString "BadWord"), v] ps qs q c
  | shut {ps qs q v ch} : v = .str (⟨#[ch]⟩ : Str) → ch ∈ cs0 → Does cs0 mv fin ps qs q true (.push v) [.str (Str.ofString "Closed")] ps qs q true
  | none {ps qs q v ch} : v = .str (⟨#[ch]⟩ : Str) → ch ∈ cs0 → stpR cs0 mv q ch = .none → Does cs0 mv fin ps qs q false (.push v) [.str (Str.ofString "NoMove"), v] ps qs q false
  | push {ps qs q v ch x t ps' qs' q'} : v = .str (⟨#[ch]⟩ : Str) → ch ∈ cs0 → stpR cs0 mv q ch = some (x, t) → ps' = ps ++ [(ch, x)] → qs' = qs ++ [q] → q' = t.toNat → Does cs0 mv fin ps qs q false (.push v) [.str (Str.ofString "told"), .str x] ps' qs' q' false
  | closed {ps qs q} : Does cs0 mv fin ps qs q true .close [.str (Str.ofString "Closed")] ps qs q true
  | open_ {ps qs q} : fin[q]? = some .none → Does cs0 mv fin ps qs q false .close [.str (Str.ofString "NotFinal")] ps qs q false
  | close {ps qs q x} : fin[q]? = some (some x) → Does cs0 mv fin ps qs q false .close [.str (Str.ofString "told"), .str x] ps qs q true
  | reopen {ps qs q} : Does cs0 mv fin ps qs q true .back [.str (Str.ofString "told"), .str (Str.ofString "")] ps qs q false
  | nothing {ps qs q} : ps = [] → Does cs0 mv fin ps qs q false .back [.str (Str.ofString "NothingToUndo")] ps qs q false
  | back {ps0 qs0 ps qs q ch x q'} : ps0 = ps ++ [(ch, x)] → qs0 = qs ++ [q'] → Does cs0 mv fin ps0 qs0 q false .back [.str (Str.ofString "told"), .str (⟨#[ch]⟩ : Str)] ps qs q' false
theorem sign1_inj {c d : Nat} (e : (V.str (⟨#[c]⟩ : Str)) = .str (⟨#[d]⟩ : Str)) : c = d := by
  have e2 := congrArg cs (V.str.inj e)
  rw [cs_one, cs_one] at e2
  exact (List.cons.inj e2).1
theorem Does.det {cs0 : List Nat} {mv : Grid} {fin : List (Option Str)} {ps qs q c d zs ps1 qs1 q1 c1 ys ps2 qs2 q2 c2} (h1 : Does cs0 mv fin ps qs q c d zs ps1 qs1 q1 c1) (h2 : Does cs0 mv fin ps qs q c d ys ps2 qs2 q2 c2) : ys = zs ∧ ps2 = ps1 ∧ qs2 = qs1 ∧ q2 = q1 ∧ c2 = c1 := by
  cases h1 with
  | bad no =>
    cases h2 with
    | bad _ => exact ⟨rfl, rfl, rfl, rfl, rfl⟩
    | shut e m => exact (no ⟨_, m, e⟩).elim
    | none e m _ => exact (no ⟨_, m, e⟩).elim
    | push e m => exact (no ⟨_, m, e⟩).elim
  | shut e m =>
    cases h2 with
    | bad no => exact (no ⟨_, m, e⟩).elim
    | shut _ _ => exact ⟨rfl, rfl, rfl, rfl, rfl⟩
  | none e m hs =>
    cases h2 with
    | bad no => exact (no ⟨_, m, e⟩).elim
    | none _ _ _ => exact ⟨rfl, rfl, rfl, rfl, rfl⟩
    | push e' m' hs' =>
      have k := sign1_inj (e.symm.trans e')
      rw [← k, hs] at hs'
      cases hs'
  | push e m hs a1 a2 a3 =>
    cases h2 with
    | bad no => exact (no ⟨_, m, e⟩).elim
    | none e' m' hs' =>
      have k := sign1_inj (e.symm.trans e')
      rw [← k, hs] at hs'
      cases hs'
    | push e' m' hs' b1 b2 b3 =>
      have k := sign1_inj (e.symm.trans e')
      rw [← k, hs] at hs'
      cases hs'
      exact ⟨rfl, by rw [a1, b1, k], by rw [a2, b2], by rw [a3, b3], rfl⟩
  | closed =>
    cases h2
    exact ⟨rfl, rfl, rfl, rfl, rfl⟩
  | open_ h =>
    cases h2 with
    | open_ _ => exact ⟨rfl, rfl, rfl, rfl, rfl⟩
    | close h' => rw [h] at h'; cases h'
  | close h =>
    cases h2 with
    | open_ h' => rw [h] at h'; cases h'
    | close h' =>
      rw [h] at h'
      cases h'
      exact ⟨rfl, rfl, rfl, rfl, rfl⟩
  | reopen =>
    cases h2
    exact ⟨rfl, rfl, rfl, rfl, rfl⟩
  | nothing e =>
    cases h2 with
    | nothing _ => exact ⟨rfl, rfl, rfl, rfl, rfl⟩
    | back e' _ => rw [e] at e'; exact absurd e'.symm (by simp)
  | back a1 a2 =>
    cases h2 with
    | nothing e' => rw [e'] at a1; exact absurd a1.symm (by simp)
    | back b1 b2 =>
      rw [a1] at b1
      rw [a2] at b2
      obtain ⟨x1, x2⟩ := List.append_inj' b1 rfl
      obtain ⟨y1, y2⟩ := List.append_inj' b2 rfl
      cases x2
      cases y2
      exact ⟨rfl, x1.symm, y1.symm, rfl, rfl⟩
theorem Does.samed {cs0 : List Nat} {mv : Grid} {fin : List (Option Str)} {ps qs q c d zs ps1 qs1 q1 c1} {n : Nat} {H : Hp} (h : Does cs0 mv fin ps qs q c d zs ps1 qs1 q1 c1) (hv : ∀ v, d = .push v → SameD n H v v) : ∀ x ∈ zs, SameD n H x x := by
  have two : ∀ {a b : V}, SameD n H a a → SameD n H b b → ∀ x ∈ [a, b], SameD n H x x := fun ha hb x m => by
    simp only [List.mem_cons, List.not_mem_nil, or_false] at m
    rcases m with rfl | rfl
    · exact ha
    · exact hb
  have one : ∀ {a : V}, SameD n H a a → ∀ x ∈ [a], SameD n H x x := fun ha x m => by
    rw [List.mem_singleton.mp m]
    exact ha
  cases h with
  | bad _ => exact two (plain_samed rfl) (hv _ rfl)
  | shut _ _ => exact one (plain_samed rfl)
  | none _ _ _ => exact two (plain_samed rfl) (hv _ rfl)
  | push _ _ _ _ _ _ => exact two (plain_samed rfl) (plain_samed rfl)
  | closed => exact one (plain_samed rfl)
  | open_ _ => exact one (plain_samed rfl)
  | close _ => exact two (plain_samed rfl) (plain_samed rfl)
  | reopen => exact two (plain_samed rfl) (plain_samed rfl)
  | nothing _ => exact one (plain_samed rfl)
  | back _ _ => exact two (plain_samed rfl) (plain_samed rfl)
theorem Does.len {cs0 : List Nat} {mv : Grid} {fin : List (Option Str)} {ps qs q c d zs ps1 qs1 q1 c1} (h : Does cs0 mv fin ps qs q c d zs ps1 qs1 q1 c1) : ps1.length ≤ ps.length + 1 ∧ zs.length ≤ 2 := by
  cases h with
  | push _ _ _ e _ _ => rw [e, List.length_append]; exact ⟨Nat.le_refl _, Nat.le_refl _⟩
  | back e _ => rw [e, List.length_append]; exact ⟨by omega, Nat.le_refl _⟩
  | bad _ => exact ⟨Nat.le_succ _, Nat.le_refl _⟩
  | shut _ _ => exact ⟨Nat.le_succ _, by show 1 ≤ 2; decide⟩
  | none _ _ _ => exact ⟨Nat.le_succ _, Nat.le_refl _⟩
  | closed => exact ⟨Nat.le_succ _, by show 1 ≤ 2; decide⟩
  | open_ _ => exact ⟨Nat.le_succ _, by show 1 ≤ 2; decide⟩
  | close _ => exact ⟨Nat.le_succ _, Nat.le_refl _⟩
  | reopen => exact ⟨Nat.le_succ _, Nat.le_refl _⟩
  | nothing _ => exact ⟨Nat.le_succ _, by show 1 ≤ 2; decide⟩
/-- a path: letters, words, the states behind them -/
inductive Pth (cs0 : List Nat) (mv : Grid) : List (Nat × Str × Nat) → List (Nat × Str) → List Nat → Nat → Prop
  | nil : Pth cs0 mv [] [] [] 0
  | snoc {ts ps qs q c x t} : Pth cs0 mv ts ps qs q → c ∈ cs0 → stpR cs0 mv q c = some (x, t) → Pth cs0 mv (ts ++ [(c, x, Int.toNat t)]) (ps ++ [(c, x)]) (qs ++ [q]) (Int.toNat t)
def p3V (e : Nat × Str × Nat) : List V := [.str (⟨#[e.1]⟩ : Str), .str e.2.1, .int ((e.2.2 : Nat) : Int)]
theorem Pth.trk {cs0 : List Nat} {mv : Grid} {ts : List (Nat × Str × Nat)} {ps : List (Nat × Str)} {qs : List Nat} {q : Nat} (h : Pth cs0 mv ts ps qs q) : Trk cs0 mv ps qs q := by
  induction h with
  | nil => exact .nil
  | snoc _ mc hs ih => exact .snoc ih mc hs
theorem Pth.map {cs0 : List Nat} {mv : Grid} {ts : List (Nat × Str × Nat)} {ps : List (Nat × Str)} {qs : List Nat} {q : Nat} (h : Pth cs0 mv ts ps qs q) : ps = ts.map fun e => (e.1, e.2.1) := by
  induction h with
  | nil => rfl
  | snoc _ _ _ ih => rw [List.map_append, ← ih]; rfl
theorem Pth.len {cs0 : List Nat} {mv : Grid} {ts : List (Nat × Str × Nat)} {ps : List (Nat × Str)} {qs : List Nat} {q : Nat} (h : Pth cs0 mv ts ps qs q) : ts.length = ps.length := by rw [h.map, List.length_map]
/-- the state now is the last one of the path -/
theorem Pth.last {cs0 : List Nat} {mv : Grid} {ts : List (Nat × Str × Nat)} {ps : List (Nat × Str)} {qs : List Nat} {q : Nat} (h : Pth cs0 mv ts ps qs q) : (ts = [] ∧ q = 0) ∨ ∃ ts' c x, ts = ts' ++ [(c, x, q)] := by
  cases h with
  | nil => exact .inl ⟨rfl, rfl⟩
  | snoc h mc hs => exact .inr ⟨_, _, _, rfl⟩
theorem Pth.inv {cs0 : List Nat} {mv : Grid} {ts : List (Nat × Str × Nat)} {ps : List (Nat × Str)} {qs : List Nat} {q : Nat} (h : Pth cs0 mv ts ps qs q) : (ts = [] ∧ ps = [] ∧ qs = [] ∧ q = 0) ∨ ∃ ts' ps' qs' q' c x t, ts = ts' ++ [(c, x, Int.toNat t)] ∧ ps = ps' ++ [(c, x)] ∧ qs = qs' ++ [q'] ∧ q = Int.toNat t ∧ Pth cs0 mv ts' ps' qs' q' ∧ c ∈ cs0 ∧ stpR cs0 mv q' c = some (x, t) := by
  cases h with
  | nil => exact .inl ⟨rfl, rfl, rfl, rfl⟩
  | snoc h mc hs => exact .inr ⟨_, _, _, _, _, _, _, rfl, rfl, rfl, rfl, h, mc, hs⟩
/-- a world: its list, its parts, its session -/
structure Wc where
  W : Addr
  p : Addr
  s : Addr
  f : Str
  mv : Grid
  fin : List (Option Str)
  M : Addr
  F : Addr
  d : Addr
  m : Addr
  Ma : Addr
  Fa : Addr
  P : Addr
  S : Addr
/-- its state: the path, what is pushed, the states -/
structure Ws where
  pa : Addr
  zs : List V
  ts : List (Nat × Str × Nat)
  ps : List (Nat × Str)
  qs : List Nat
  q : Nat
  c : Bool
structure WldA (CS : Addr) (r z : Str) (L : List Addr) (G : Hp) (w : Wc) (v : Ws) : Prop where
  hW : G w.W = some (.lst [.ref w.p, .ref w.s, .ref v.pa, .bl v.c])
  nW : w.W ∉ L
  rp : RP (w.W :: w.P :: w.S :: L) G w.p r z w.f w.mv w.fin w.M w.F
  se : SeA CS (w.W :: L) G w.s r w.f w.mv w.fin w.d w.m w.Ma w.Fa w.P w.S v.ps v.qs v.q v.c
  g : GoodR r z w.f w.mv w.fin
  hpa : G v.pa = some (.lst v.zs)
  npa : v.pa ∉ w.W :: w.P :: w.S :: L
  en : EntL p3V G v.zs v.ts
  pt : Pth (cs r) w.mv v.ts v.ps v.qs v.q
section
variable [Tabl] {CS : Addr} {r z : Str} {L : List Addr} {G G' : Hp} {w : Wc} {v : Ws}
theorem WldA.same (h : WldA CS r z L G w v) (k : Same G G') : WldA CS r z L G' w v := ⟨k _ _ h.hW, h.nW, h.rp.same k, h.se.same k, h.g, k _ _ h.hpa, h.npa, h.en.same k, h.pt⟩
theorem mem3 {x a b c : Addr} {L : List Addr} (m : x ∈ L) : x ∈ a :: b :: c :: L := by simp [m]
theorem WldA.but {x : Addr} {ys : List V} (h : WldA CS r z L G w v) (k : But x G G') (m : x ∈ L) (hx : G x = some (.lst ys)) : WldA CS r z L G' w v := by
  have nt : ∀ ws, G x ≠ some (.tup ws) := fun ws e => by rw [hx] at e; cases e
  exact ⟨k _ _ (fun e => h.nW (by rw [e]; exact m)) h.hW, h.nW, h.rp.but k (mem3 m) nt, h.se.but k (List.mem_cons_of_mem _ m) hx, h.g, k _ _ (fun e => h.npa (by rw [e]; exact mem3 m)) h.hpa, h.npa, Paired.mapP h.en fun _ _ ⟨t, e, q⟩ => ⟨t, e, k _ _ (fun z => nt _ (by rw [← z]; exact q)) q⟩, h.pt⟩
theorem WldA.buti {s C dx : Addr} {fs : List (Str × V)} {L' : List Addr} (h : WldA CS r z L G w v) (hs : G s = some (.ins C dx fs)) (n : w.s ≠ s) (k : ButI s L' G G') (hL : ∀ b ∈ L', b ∈ L) : WldA CS r z L G' w v :=
  ⟨k.row hs h.hW (fun m => h.nW (hL _ m)), h.nW, h.rp.buti hs k (fun b m => mem3 (hL b m)), h.se.buti hs n k (fun b m => List.mem_cons_of_mem _ (hL b m)), h.g, k.row hs h.hpa (fun m => h.npa (mem3 (hL _ m))), h.npa, h.en.buti hs k, h.pt⟩
end
theorem SameD.sym {H : Hp} : ∀ {n : Nat} {x y : V}, SameD n H x y → SameD n H y x
  | 0, x, y, h => h.elim (fun ⟨e, p⟩ => .inl ⟨e.symm, by rw [e]; exact p⟩) fun ⟨p, q, xs, ys, e1, e2, o, l, m, r⟩ => .inr ⟨q, p, ys, xs, e2, e1, o.elim (fun z => .inl ⟨z.2, z.1⟩) (fun z => .inr ⟨z.2, z.1⟩), l.symm, by omega, fun i a b ea eb => (r i b a eb ea).elim⟩
  | n + 1, x, y, h => h.elim (fun ⟨e, p⟩ => .inl ⟨e.symm, by rw [e]; exact p⟩) fun ⟨p, q, xs, ys, e1, e2, o, l, m, r⟩ => .inr ⟨q, p, ys, xs, e2, e1, o.elim (fun z => .inl ⟨z.2, z.1⟩) (fun z => .inr ⟨z.2, z.1⟩), l.symm, by omega, fun i a b ea eb => SameD.sym (r i b a eb ea)⟩
/-- a deed and its copy -/
def DeedS (n : Nat) (H : Hp) : Deed → Deed → Prop
  | .push v', .push v => SameD n H v' v
  | .close, .close => True
  | .back, .back => True
  | _, _ => False
theorem deed_copy {n : Nat} {H : Hp} {u : V} {dt : Addr} {d : Deed} (h : SameD (n + 1) H u (.ref dt)) (hd : H dt = some (.tup (deedV d))) : ∃ dt' d', u = .ref dt' ∧ H dt' = some (.tup (deedV d')) ∧ DeedS n H d' d := by
  rcases h with ⟨e, pl⟩ | ⟨p, q, xs, ys, rfl, e2, o, l, _, r⟩
  · cases pl
  · cases e2
    rcases o with ⟨h1, h2⟩ | ⟨h1, h2⟩
    · rw [hd] at h2
      cases h2
      refine ⟨p, ?_⟩
      have pl0 : ∀ {x : V} {y : Str}, SameD n H x (.str y) → x = .str y := fun {x y} h => by
        have key : ∀ rel, SameR rel H x (.str y) → x = .str y := fun rel h => by
          rcases h with ⟨e, _⟩ | ⟨_, _, _, _, _, e, _⟩
          · exact e
          · cases e
        cases n with
        | zero => exact key _ h
        | succ n => exact key _ h
      cases d with
      | push v =>
        match xs, l with
        | [a, b], _ =>
          have ha := pl0 (r 0 a _ rfl rfl)
          subst ha
          exact ⟨.push b, rfl, h1, r 1 b v rfl rfl⟩
      | close =>
        match xs, l with
        | [a], _ =>
          have ha := pl0 (r 0 a _ rfl rfl)
          subst ha
          exact ⟨.close, rfl, h1, trivial⟩
      | back =>
        match xs, l with
        | [a], _ =>
          have ha := pl0 (r 0 a _ rfl rfl)
          subst ha
          exact ⟨.back, rfl, h1, trivial⟩
    · rw [hd] at h2
      cases h2
theorem Does.copy {n : Nat} {H : Hp} {cs0 : List Nat} {mv : Grid} {fin : List (Option Str)} {ps qs q c d d' zs ps1 qs1 q1 c1 ys ps2 qs2 q2 c2} (s : DeedS n H d' d) (h1 : Does cs0 mv fin ps qs q c d' zs ps1 qs1 q1 c1) (h2 : Does cs0 mv fin ps qs q c d ys ps2 qs2 q2 c2) (hv : ∀ v, d = .push v → SameD n H v v) : (ps2 = ps1 ∧ qs2 = qs1 ∧ q2 = q1 ∧ c2 = c1) ∧ ys.length = zs.length ∧ ∀ (i : Nat) (x y : V), ys[i]? = some x → zs[i]? = some y → SameD n H x y := by
  match d', d, s with
  | .close, .close, _ => 
    obtain ⟨rfl, a, b, cc, dd⟩ := h1.det h2
    exact ⟨⟨a, b, cc, dd⟩, rfl, fun i x y hx hy => by rw [hx] at hy; cases hy; exact h2.samed hv x (List.mem_of_getElem? hx)⟩
  | .back, .back, _ =>
    obtain ⟨rfl, a, b, cc, dd⟩ := h1.det h2
    exact ⟨⟨a, b, cc, dd⟩, rfl, fun i x y hx hy => by rw [hx] at hy; cases hy; exact h2.samed hv x (List.mem_of_getElem? hx)⟩
  | .push v', .push v, s =>
    have cases_ : v' = v ∨ ((∀ x, v ≠ .str x) ∧ ∀ x, v' ≠ .str x) := by
      have key : ∀ rel, SameR rel H v' v → v' = v ∨ ((∀ x, v ≠ .str x) ∧ ∀ x, v' ≠ .str x) := fun rel h => by
        rcases h with ⟨e, _⟩ | ⟨_, _, _, _, e1, e2, _⟩
        · exact .inl e
        · rw [e1, e2]
          exact .inr ⟨fun x e => by (cases e), fun x e => by (cases e)⟩
      cases n with
      | zero => exact key (fun _ _ _ => False) s
      | succ n => exact key (SameD n) s
    rcases cases_ with e | ⟨n1, n2⟩
    · subst e
      obtain ⟨rfl, a, b, cc, dd⟩ := h1.det h2
      exact ⟨⟨a, b, cc, dd⟩, rfl, fun i x y hx hy => by rw [hx] at hy; cases hy; exact h2.samed hv x (List.mem_of_getElem? hx)⟩
    · have b1 : zs = [.str (Str.ofString "BadWord"), v'] ∧ ps1 = ps ∧ qs1 = qs ∧ q1 = q ∧ c1 = c := by
        cases h1 with
        | bad _ => exact ⟨rfl, rfl, rfl, rfl, rfl⟩
        | shut e _ => exact (n2 _ e).elim
        | none e _ _ => exact (n2 _ e).elim
        | push e _ _ _ _ _ => exact (n2 _ e).elim
      have b2 : ys = [.str (Str.ofString "BadWord"), v] ∧ ps2 = ps ∧ qs2 = qs ∧ q2 = q ∧ c2 = c := by
        cases h2 with
        | bad _ => exact ⟨rfl, rfl, rfl, rfl, rfl⟩
        | shut e _ => exact (n1 _ e).elim
        | none e _ _ => exact (n1 _ e).elim
        | push e _ _ _ _ _ => exact (n1 _ e).elim
      obtain ⟨rfl, rfl, rfl, rfl, rfl⟩ := b1
      obtain ⟨rfl, rfl, rfl, rfl, rfl⟩ := b2
      refine ⟨⟨rfl, rfl, rfl, rfl⟩, rfl, fun i x y hx hy => ?_⟩
      match i, hx, hy with
      | 0, rfl, rfl => exact plain_samed rfl
      | 1, rfl, rfl => exact s.sym
theorem SameD.cap {c : Addr} {H : Hp} : ∀ {n m : Nat} {x y : V}, SameD m H x y → Deep c n H y → SameD n H x y
  | 0, 0, x, y, h, _ => h
  | 0, m + 1, x, y, h, g => h.elim .inl fun ⟨p, q, xs, ys, e1, e2, o, l, b, r⟩ => by
      subst e1
      subst e2
      rcases g with ⟨pl, _⟩ | ⟨q', zs, e, _, o2, _, r2⟩
      · cases pl
      · cases e
        have e3 := same_row (o.elim (fun z => .inr z.2) (fun z => .inl z.2)) o2
        subst e3
        exact .inr ⟨p, q, xs, ys, rfl, rfl, o, l, b, fun i a b ea eb => (r2 b (List.mem_of_getElem? eb)).elim⟩
  | n + 1, 0, x, y, h, g => h.elim .inl fun ⟨p, q, xs, ys, e1, e2, o, l, b, r⟩ => .inr ⟨p, q, xs, ys, e1, e2, o, l, b, fun i a b ea eb => (r i a b ea eb).elim⟩
  | n + 1, m + 1, x, y, h, g => h.elim .inl fun ⟨p, q, xs, ys, e1, e2, o, l, b, r⟩ => by
      subst e1
      subst e2
      have d := deep_ref g (o.elim (fun z => .inr z.2) (fun z => .inl z.2))
      exact .inr ⟨p, q, xs, ys, rfl, rfl, o, l, b, fun i a b ea eb => SameD.cap (r i a b ea eb) (d.2 n rfl b (List.mem_of_getElem? eb))⟩
theorem SameD.buti [Tabl] {s C dx : Addr} {fs : List (Str × V)} {L : List Addr} {H H' : Hp} (hs : H s = some (.ins C dx fs)) (k : ButI s L H H') : ∀ {n : Nat} {x y : V}, SameD n H x y → (∀ c ∈ L, Deep c n H x) → (∀ c ∈ L, Deep c n H y) → SameD n H' x y
  | 0, x, y, h, gx, gy => h.elim .inl fun ⟨p, q, xs, ys, e1, e2, o, l, m, r⟩ => by
      subst e1
      subst e2
      refine .inr ⟨p, q, xs, ys, rfl, rfl, o.elim (fun z => .inl ⟨k.tup hs z.1, k.tup hs z.2⟩) (fun z => .inr ⟨k.row hs z.1 fun m => ?_, k.row hs z.2 fun m => ?_⟩), l, m, fun i a b ea eb => (r i a b ea eb).elim⟩
      · exact (deep_ref (gx p m) (.inl z.1)).1 rfl
      · exact (deep_ref (gy q m) (.inl z.2)).1 rfl
  | n + 1, x, y, h, gx, gy => h.elim .inl fun ⟨p, q, xs, ys, e1, e2, o, l, m, r⟩ => by
      subst e1
      subst e2
      have o1 : H p = some (.lst xs) ∨ H p = some (.tup xs) := o.elim (fun z => .inr z.1) (fun z => .inl z.1)
      have o2 : H q = some (.lst ys) ∨ H q = some (.tup ys) := o.elim (fun z => .inr z.2) (fun z => .inl z.2)
      refine .inr ⟨p, q, xs, ys, rfl, rfl, o.elim (fun z => .inl ⟨k.tup hs z.1, k.tup hs z.2⟩) (fun z => .inr ⟨k.row hs z.1 fun m => ?_, k.row hs z.2 fun m => ?_⟩), l, m, fun i a b ea eb => SameD.buti hs k (r i a b ea eb) (fun c mc => (deep_ref (gx c mc) o1).2 n rfl a (List.mem_of_getElem? ea)) fun c mc => (deep_ref (gy c mc) o2).2 n rfl b (List.mem_of_getElem? eb)⟩
      · exact (deep_ref (gx p m) (.inl z.1)).1 rfl
      · exact (deep_ref (gy q m) (.inl z.2)).1 rfl
theorem DeepCap {c : Addr} {H : Hp} : ∀ {n m : Nat} {x y : V}, SameD n H x y → Deep c m H x → Deep c n H x := by
  have elt : ∀ {xs ys : List V} {x : V}, xs.length = ys.length → x ∈ xs → ∃ (i : Nat) (y : V), xs[i]? = some x ∧ ys[i]? = some y := fun {xs ys x} l m => by
    obtain ⟨i, hi⟩ := List.getElem?_of_mem m
    have := (List.getElem?_eq_some_iff.mp hi).1
    exact ⟨i, _, hi, List.getElem?_eq_getElem (by omega)⟩
  intro n
  induction n with
  | zero =>
    intro m x y h g
    have g' : (plainV x = true ∧ (∀ z : Str, x = .str z → z.length ≤ 4000000) ∧ ∀ i : Int, x = .int i → i.natAbs < 2 ^ 13000) ∨ ∃ (p : Addr) (xs : List V), x = .ref p ∧ p ≠ c ∧ (H p = some (.lst xs) ∨ H p = some (.tup xs)) ∧ xs.length ≤ 4000000 := by
      cases m <;> exact g.imp id fun ⟨p, xs, a, b, cc, d, _⟩ => ⟨p, xs, a, b, cc, d⟩
    rcases g' with g' | ⟨p, xs, e, ne, o, l⟩
    · exact .inl g'
    · refine .inr ⟨p, xs, e, ne, o, l, fun a ma => ?_⟩
      rcases h with ⟨_, pl⟩ | ⟨p', q, xs', ys, e1, e2, o', l', _, r⟩
      · subst e
        rename_i he
        cases he
        cases pl
      · subst e
        cases e1
        have e3 := same_row (o'.elim (fun z => .inr z.1) (fun z => .inl z.1)) o
        subst e3
        obtain ⟨i, y', h1, h2⟩ := elt l' ma
        exact r i a y' h1 h2
  | succ n ih =>
    intro m x y h g
    rcases h with ⟨e, pl⟩ | ⟨p', q, xs', ys, e1, e2, o', l', b', r⟩
    · subst e
      have g' : (plainV x = true ∧ (∀ z : Str, x = .str z → z.length ≤ 4000000) ∧ ∀ i : Int, x = .int i → i.natAbs < 2 ^ 13000) ∨ ∃ p : Addr, x = .ref p := by
        cases m <;> exact g.imp id fun ⟨p, _, a, _⟩ => ⟨p, a⟩
      rcases g' with g' | ⟨p, e⟩
      · exact .inl g'
      · rw [e] at pl
        cases pl
    · subst e1
      have o1 : H p' = some (.lst xs') ∨ H p' = some (.tup xs') := o'.elim (fun z => .inr z.1) (fun z => .inl z.1)
      have d := deep_ref g o1
      refine .inr ⟨p', xs', rfl, d.1, o1, by omega, fun a ma => ?_⟩
      obtain ⟨i, y', h1, h2⟩ := elt l' ma
      cases m with
      | zero =>
        rcases g with ⟨pl, _⟩ | ⟨p, xs, e, _, o2, _, r2⟩
        · cases pl
        · cases e
          have e3 := same_row o1 o2
          subst e3
          exact (r2 a ma).elim
      | succ m => exact ih (r i a y' h1 h2) (d.2 m rfl a ma)
end Lb

namespace Lb
open PySem PySem.Spec PyProof.Rows L2
def topS (i : Nat) : Stmt := PySem.Challenge.pw_lagbound_k75_back_takes_back.main.body.getD i (.Pass ⟨0, 0, 0, 0⟩)
abbrev s_wall : Stmt := topS 0
abbrev s_is_whole : Stmt := topS 2
theorem sc_is_whole : FnScope ["value"] ["value"] (defScope s_is_whole) := ⟨rfl, rfl, rfl, by decide +kernel, rfl, by decide +kernel, by decide +kernel⟩
abbrev s_in_range : Stmt := topS 3
theorem sc_in_range : FnScope ["value", "low", "high"] ["value", "low", "high"] (defScope s_in_range) := ⟨rfl, rfl, rfl, by decide +kernel, rfl, by decide +kernel, by decide +kernel⟩
abbrev s_is_letters : Stmt := topS 22
theorem sc_is_letters : FnScope ["value"] ["value"] (defScope s_is_letters) := ⟨rfl, rfl, rfl, by decide +kernel, rfl, by decide +kernel, by decide +kernel⟩
abbrev s_is_letter : Stmt := topS 23
theorem sc_is_letter : FnScope ["letters", "value"] ["letters", "value"] (defScope s_is_letter) := ⟨rfl, rfl, rfl, by decide +kernel, rfl, by decide +kernel, by decide +kernel⟩
abbrev s_is_word : Stmt := topS 24
theorem sc_is_word : FnScope ["letters", "value"] ["letters", "value"] (defScope s_is_word) := ⟨rfl, rfl, rfl, by decide +kernel, rfl, by decide +kernel, by decide +kernel⟩
abbrev s_is_word_up_to : Stmt := topS 25
theorem sc_is_word_up_to : FnScope ["letters", "value", "most"] ["letters", "value", "most"] (defScope s_is_word_up_to) := ⟨rfl, rfl, rfl, by decide +kernel, rfl, by decide +kernel, by decide +kernel⟩
abbrev s_check_letters : Stmt := topS 26
theorem sc_check_letters : FnScope ["letters"] ["letters"] (defScope s_check_letters) := ⟨rfl, rfl, rfl, by decide +kernel, rfl, by decide +kernel, by decide +kernel⟩
abbrev s_check_word : Stmt := topS 27
abbrev s_check_states : Stmt := topS 31
abbrev s_check_written : Stmt := topS 32
abbrev s_checked_first : Stmt := topS 35
theorem sc_checked_first : FnScope ["write", "first"] ["write", "first"] (defScope s_checked_first) := ⟨rfl, rfl, rfl, by decide +kernel, rfl, by decide +kernel, by decide +kernel⟩
abbrev s_checked_rows : Stmt := topS 36
theorem sc_checked_rows : FnScope ["read", "write", "moves", "index", "row", "move"] ["read", "write", "moves"] (defScope s_checked_rows) := ⟨rfl, rfl, rfl, by decide +kernel, rfl, by decide +kernel, by decide +kernel⟩
abbrev s_is_move : Stmt := topS 37
theorem sc_is_move : FnScope ["value", "write", "size", "word", "target"] ["value", "write", "size"] (defScope s_is_move) := ⟨rfl, rfl, rfl, by decide +kernel, rfl, by decide +kernel, by decide +kernel⟩
abbrev s_checked_finals : Stmt := topS 38
theorem sc_checked_finals : FnScope ["write", "size", "finals", "index", "word"] ["write", "size", "finals"] (defScope s_checked_finals) := ⟨rfl, rfl, rfl, by decide +kernel, rfl, by decide +kernel, by decide +kernel⟩
abbrev s_built_reader : Stmt := topS 39
abbrev s_empty_reader : Stmt := topS 40
abbrev s_run_over : Stmt := topS 41
abbrev s_told_by : Stmt := topS 42
abbrev s_tail_of : Stmt := topS 43
abbrev s_chained : Stmt := topS 44
abbrev s_chained_finals : Stmt := topS 45
abbrev s_mix : Stmt := topS 47
theorem sc_mix : FnScope ["number", "tick", "one", "two"] ["number", "tick"] (defScope s_mix) := ⟨rfl, rfl, rfl, by decide +kernel, rfl, by decide +kernel, by decide +kernel⟩
abbrev s_store : Stmt := topS 48
theorem sc_store : FnScope ["script", "seed", "cell"] ["script"] (defScope s_store) := ⟨rfl, rfl, rfl, by decide +kernel, rfl, by decide +kernel, by decide +kernel⟩
abbrev s_take : Stmt := topS 49
theorem sc_take : FnScope ["store", "many", "cells", "cell", "digit"] ["store", "many"] (defScope s_take) := ⟨rfl, rfl, rfl, by decide +kernel, rfl, by decide +kernel, by decide +kernel⟩
abbrev s_pick : Stmt := topS 50
theorem sc_pick : FnScope ["store", "row"] ["store", "row"] (defScope s_pick) := ⟨rfl, rfl, rfl, by decide +kernel, rfl, by decide +kernel, by decide +kernel⟩
abbrev s_between : Stmt := topS 51
theorem sc_between : FnScope ["store", "low", "high", "draw"] ["store", "low", "high"] (defScope s_between) := ⟨rfl, rfl, rfl, by decide +kernel, rfl, by decide +kernel, by decide +kernel⟩
abbrev s_big : Stmt := topS 52
theorem sc_big : FnScope ["store", "draw", "number", "k"] ["store"] (defScope s_big) := ⟨rfl, rfl, rfl, by decide +kernel, rfl, by decide +kernel, by decide +kernel⟩
abbrev s_order : Stmt := topS 53
theorem sc_order : FnScope ["store", "size", "left", "row", "k"] ["store", "size"] (defScope s_order) := ⟨rfl, rfl, rfl, by decide +kernel, rfl, by decide +kernel, by decide +kernel⟩
abbrev s_turned : Stmt := topS 54
theorem sc_turned : FnScope ["store", "row", "k"] ["store", "row"] (defScope s_turned) := ⟨rfl, rfl, rfl, by decide +kernel, rfl, by decide +kernel, by decide +kernel⟩
abbrev s_no_text : Stmt := topS 55
theorem sc_no_text : FnScope ["store", "draw"] ["store"] (defScope s_no_text) := ⟨rfl, rfl, rfl, by decide +kernel, rfl, by decide +kernel, by decide +kernel⟩
abbrev s_letters : Stmt := topS 56
theorem sc_letters : FnScope ["store", "limit", "size", "every", "draw", "at", "word", "k"] ["store", "limit"] (defScope s_letters) := ⟨rfl, rfl, rfl, by decide +kernel, rfl, by decide +kernel, by decide +kernel⟩
abbrev s_stranger : Stmt := topS 57
theorem sc_stranger : FnScope ["store", "letters", "x"] ["store", "letters"] (defScope s_stranger) := ⟨rfl, rfl, rfl, by decide +kernel, rfl, by decide +kernel, by decide +kernel⟩
abbrev s_word : Stmt := topS 58
theorem sc_word : FnScope ["store", "letters", "limit", "draw", "size", "k"] ["store", "letters", "limit"] (defScope s_word) := ⟨rfl, rfl, rfl, by decide +kernel, rfl, by decide +kernel, by decide +kernel⟩
abbrev s_not_letter : Stmt := topS 59
theorem sc_not_letter : FnScope ["store", "letters", "draw"] ["store", "letters"] (defScope s_not_letter) := ⟨rfl, rfl, rfl, by decide +kernel, rfl, by decide +kernel, by decide +kernel⟩
abbrev s_reader : Stmt := topS 60
theorem sc_reader : FnScope ["store", "read", "write", "limit", "size", "longest", "kind", "moves", "finals", "k", "row", "j", "step", "final"] ["store", "read", "write", "limit"] (defScope s_reader) := ⟨rfl, rfl, rfl, by decide +kernel, rfl, by decide +kernel, by decide +kernel⟩
abbrev s_wide_reader : Stmt := topS 61
theorem sc_wide_reader : FnScope ["store", "read", "write", "size", "step", "part", "sign", "moves", "k", "row", "finals", "j"] ["store", "read", "write", "size"] (defScope s_wide_reader) := ⟨rfl, rfl, rfl, by decide +kernel, rfl, by decide +kernel, by decide +kernel⟩
abbrev s_same : Stmt := topS 62
theorem sc_same : FnScope ["actual", "expected", "k"] ["actual", "expected"] (defScope s_same) := ⟨rfl, rfl, rfl, by decide +kernel, rfl, by decide +kernel, by decide +kernel⟩
abbrev s_copy : Stmt := topS 63
theorem sc_copy : FnScope ["value", "item"] ["value"] (defScope s_copy) := ⟨rfl, rfl, rfl, by decide +kernel, rfl, by decide +kernel, by decide +kernel⟩
abbrev s_reader_of : Stmt := topS 64
theorem sc_reader_of : FnScope ["parts", "row"] ["parts"] (defScope s_reader_of) := ⟨rfl, rfl, rfl, by decide +kernel, rfl, by decide +kernel, by decide +kernel⟩
abbrev s_reader_parts_of : Stmt := topS 65
theorem sc_reader_parts_of : FnScope ["reader"] ["reader"] (defScope s_reader_parts_of) := ⟨rfl, rfl, rfl, by decide +kernel, rfl, by decide +kernel, by decide +kernel⟩
abbrev s_seen : Stmt := topS 66
theorem sc_seen : FnScope ["session", "rows", "row"] ["session"] (defScope s_seen) := ⟨rfl, rfl, rfl, by decide +kernel, rfl, by decide +kernel, by decide +kernel⟩
abbrev s_due : Stmt := topS 67
theorem sc_due : FnScope ["parts", "path", "shut", "state", "word", "text", "rows", "step", "final", "size"] ["parts", "path", "shut"] (defScope s_due) := ⟨rfl, rfl, rfl, by decide +kernel, rfl, by decide +kernel, by decide +kernel⟩
abbrev s_act : Stmt := topS 68
theorem sc_act : FnScope ["parts", "path", "shut", "deed", "state", "letter", "step"] ["parts", "path", "shut", "deed"] (defScope s_act) := ⟨rfl, rfl, rfl, by decide +kernel, rfl, by decide +kernel, by decide +kernel⟩
abbrev s_answer : Stmt := topS 69
theorem sc_answer : FnScope ["session", "deed", "told", "e"] ["session", "deed"] (defScope s_answer) := ⟨rfl, rfl, rfl, by decide +kernel, rfl, by decide +kernel, by decide +kernel⟩
abbrev s_run : Stmt := topS 70
theorem sc_run : FnScope ["worlds", "side", "deed", "whole", "world", "made", "told", "row"] ["worlds", "side", "deed", "whole"] (defScope s_run) := ⟨rfl, rfl, rfl, by decide +kernel, rfl, by decide +kernel, by decide +kernel⟩
abbrev s_deed : Stmt := topS 71
theorem sc_deed : FnScope ["store", "world", "parts", "state", "good", "draw", "j"] ["store", "world"] (defScope s_deed) := ⟨rfl, rfl, rfl, by decide +kernel, rfl, by decide +kernel, by decide +kernel⟩
abbrev s_unwound : Stmt := topS 72
theorem sc_unwound : FnScope ["store", "worlds", "side", "world", "size", "k", "whole", "draw"] ["store", "worlds", "side"] (defScope s_unwound) := ⟨rfl, rfl, rfl, by decide +kernel, rfl, by decide +kernel, by decide +kernel⟩
abbrev s_law : Stmt := topS 73
theorem sc_law : FnScope ["script", "store", "read", "write", "one", "two", "readers", "worlds", "many", "deeds", "again", "turn", "k", "side", "deed"] ["script"] (defScope s_law) := ⟨rfl, rfl, rfl, by decide +kernel, rfl, by decide +kernel, by decide +kernel⟩
abbrev si_BadLetters : Stmt := inCls (topS 6) 0
theorem sci_BadLetters : FnScope ["self", "value"] ["self", "value"] (defScope si_BadLetters) := ⟨rfl, rfl, rfl, by decide +kernel, rfl, by decide +kernel, by decide +kernel⟩
abbrev si_BadWord : Stmt := inCls (topS 7) 0
theorem sci_BadWord : FnScope ["self", "value"] ["self", "value"] (defScope si_BadWord) := ⟨rfl, rfl, rfl, by decide +kernel, rfl, by decide +kernel, by decide +kernel⟩
abbrev si_BadNumber : Stmt := inCls (topS 8) 0
abbrev si_BadEntry : Stmt := inCls (topS 9) 0
abbrev si_TooLarge : Stmt := inCls (topS 11) 0
abbrev si_NoMove : Stmt := inCls (topS 12) 0
theorem sci_NoMove : FnScope ["self", "letter"] ["self", "letter"] (defScope si_NoMove) := ⟨rfl, rfl, rfl, by decide +kernel, rfl, by decide +kernel, by decide +kernel⟩
abbrev s_Session___init__ : Stmt := inCls (topS 29) 0
theorem sc_Session___init__ : FnScope ["self", "reader"] ["self", "reader"] (defScope s_Session___init__) := ⟨rfl, rfl, rfl, by decide +kernel, rfl, by decide +kernel, by decide +kernel⟩
abbrev s_Session_state : Stmt := inCls (topS 29) 1
theorem sc_Session_state : FnScope ["self"] ["self"] (defScope s_Session_state) := ⟨rfl, rfl, rfl, by decide +kernel, rfl, by decide +kernel, by decide +kernel⟩
abbrev s_Session_taken : Stmt := inCls (topS 29) 2
theorem sc_Session_taken : FnScope ["self", "letter", "_"] ["self"] (defScope s_Session_taken) := ⟨rfl, rfl, rfl, by decide +kernel, rfl, by decide +kernel, by decide +kernel⟩
abbrev s_Session_written : Stmt := inCls (topS 29) 3
theorem sc_Session_written : FnScope ["self", "last", "_", "word"] ["self"] (defScope s_Session_written) := ⟨rfl, rfl, rfl, by decide +kernel, rfl, by decide +kernel, by decide +kernel⟩
abbrev s_Session_held : Stmt := inCls (topS 29) 4
theorem sc_Session_held : FnScope ["self", "last"] ["self"] (defScope s_Session_held) := ⟨rfl, rfl, rfl, by decide +kernel, rfl, by decide +kernel, by decide +kernel⟩
abbrev s_Session_closed : Stmt := inCls (topS 29) 5
theorem sc_Session_closed : FnScope ["self"] ["self"] (defScope s_Session_closed) := ⟨rfl, rfl, rfl, by decide +kernel, rfl, by decide +kernel, by decide +kernel⟩
abbrev s_Session___len__ : Stmt := inCls (topS 29) 6
theorem sc_Session___len__ : FnScope ["self"] ["self"] (defScope s_Session___len__) := ⟨rfl, rfl, rfl, by decide +kernel, rfl, by decide +kernel, by decide +kernel⟩
abbrev s_Session___iter__ : Stmt := inCls (topS 29) 7
theorem sc_Session___iter__ : FnScope ["self"] ["self"] (defScope s_Session___iter__) := ⟨rfl, rfl, rfl, by decide +kernel, rfl, by decide +kernel, by decide +kernel⟩
abbrev s_Session_push : Stmt := inCls (topS 29) 8
theorem sc_Session_push : FnScope ["self", "letter", "move"] ["self", "letter"] (defScope s_Session_push) := ⟨rfl, rfl, rfl, by decide +kernel, rfl, by decide +kernel, by decide +kernel⟩
abbrev s_Session_reads : Stmt := inCls (topS 29) 9
theorem sc_Session_reads : FnScope ["self", "value"] ["self", "value"] (defScope s_Session_reads) := ⟨rfl, rfl, rfl, by decide +kernel, rfl, by decide +kernel, by decide +kernel⟩
abbrev s_Session_close : Stmt := inCls (topS 29) 10
theorem sc_Session_close : FnScope ["self", "last"] ["self"] (defScope s_Session_close) := ⟨rfl, rfl, rfl, by decide +kernel, rfl, by decide +kernel, by decide +kernel⟩
abbrev s_Session_back : Stmt := inCls (topS 29) 11
theorem sc_Session_back : FnScope ["self", "letter", "_"] ["self"] (defScope s_Session_back) := ⟨rfl, rfl, rfl, by decide +kernel, rfl, by decide +kernel, by decide +kernel⟩
abbrev s_Session_twin : Stmt := inCls (topS 29) 12
abbrev s_Reader___init__ : Stmt := inCls (topS 34) 0
theorem sc_Reader___init__ : FnScope ["self", "read", "write", "first", "moves", "finals"] ["self", "read", "write", "first", "moves", "finals"] (defScope s_Reader___init__) := ⟨rfl, rfl, rfl, by decide +kernel, rfl, by decide +kernel, by decide +kernel⟩
abbrev s_Reader_read : Stmt := inCls (topS 34) 1
theorem sc_Reader_read : FnScope ["self"] ["self"] (defScope s_Reader_read) := ⟨rfl, rfl, rfl, by decide +kernel, rfl, by decide +kernel, by decide +kernel⟩
abbrev s_Reader_write : Stmt := inCls (topS 34) 2
theorem sc_Reader_write : FnScope ["self"] ["self"] (defScope s_Reader_write) := ⟨rfl, rfl, rfl, by decide +kernel, rfl, by decide +kernel, by decide +kernel⟩
abbrev s_Reader_first : Stmt := inCls (topS 34) 3
theorem sc_Reader_first : FnScope ["self"] ["self"] (defScope s_Reader_first) := ⟨rfl, rfl, rfl, by decide +kernel, rfl, by decide +kernel, by decide +kernel⟩
abbrev s_Reader_moves : Stmt := inCls (topS 34) 4
theorem sc_Reader_moves : FnScope ["self", "row"] ["self"] (defScope s_Reader_moves) := ⟨rfl, rfl, rfl, by decide +kernel, rfl, by decide +kernel, by decide +kernel⟩
abbrev s_Reader_finals : Stmt := inCls (topS 34) 5
theorem sc_Reader_finals : FnScope ["self"] ["self"] (defScope s_Reader_finals) := ⟨rfl, rfl, rfl, by decide +kernel, rfl, by decide +kernel, by decide +kernel⟩
abbrev s_Reader___len__ : Stmt := inCls (topS 34) 6
abbrev s_Reader___rshift__ : Stmt := inCls (topS 34) 7
abbrev s_Reader_state_after : Stmt := inCls (topS 34) 8
abbrev s_Reader_written_after : Stmt := inCls (topS 34) 9
abbrev s_Reader_tell : Stmt := inCls (topS 34) 10
abbrev s_Reader_tail : Stmt := inCls (topS 34) 11
set_option genInjectivity false in
set_option genSizeOf false in
set_option genSizeOfSpec false in
structure Txt [Tabl] (K : PySem.W.Frag) (mg : Str → Option Value) (base : Heap) where
  f_wall : Addr
  fd_wall : FuncData
  F_wall : Fun K "_wall" "_wall" s_wall f_wall fd_wall
  b_wall : Binds K fd_wall ["k"] []
  g_wall : mg "_wall" = some (.ref f_wall)
  f_is_whole : Addr
  fd_is_whole : FuncData
  F_is_whole : Fun K "is_whole" "is_whole" s_is_whole f_is_whole fd_is_whole
  b_is_whole : Binds K fd_is_whole ["value"] []
  g_is_whole : mg "is_whole" = some (.ref f_is_whole)
  f_in_range : Addr
  fd_in_range : FuncData
  F_in_range : Fun K "in_range" "in_range" s_in_range f_in_range fd_in_range
  b_in_range : Binds K fd_in_range ["value", "low", "high"] []
  g_in_range : mg "in_range" = some (.ref f_in_range)
  f_is_letters : Addr
  fd_is_letters : FuncData
  C_is_letters : Addr
  P_is_letters : Addr
  F_is_letters : FunC K "is_letters" "is_letters" s_is_letters f_is_letters fd_is_letters C_is_letters
  B_is_letters : LamX.TabB base mg C_is_letters P_is_letters
  m_is_letters : (P_is_letters, (Str.ofString "is_letters" ++ ".<locals>.") ++ "<genexpr>") ∈ Tabl.T
  b_is_letters : Binds K fd_is_letters ["value"] []
  g_is_letters : mg "is_letters" = some (.ref f_is_letters)
  f_is_letter : Addr
  fd_is_letter : FuncData
  F_is_letter : Fun K "is_letter" "is_letter" s_is_letter f_is_letter fd_is_letter
  b_is_letter : Binds K fd_is_letter ["letters", "value"] []
  g_is_letter : mg "is_letter" = some (.ref f_is_letter)
  f_is_word : Addr
  fd_is_word : FuncData
  C_is_word : Addr
  P_is_word : Addr
  F_is_word : FunC K "is_word" "is_word" s_is_word f_is_word fd_is_word C_is_word
  B_is_word : LamX.TabB base mg C_is_word P_is_word
  m_is_word : (P_is_word, (Str.ofString "is_word" ++ ".<locals>.") ++ "<genexpr>") ∈ Tabl.T
  b_is_word : Binds K fd_is_word ["letters", "value"] []
  g_is_word : mg "is_word" = some (.ref f_is_word)
  f_is_word_up_to : Addr
  fd_is_word_up_to : FuncData
  F_is_word_up_to : Fun K "is_word_up_to" "is_word_up_to" s_is_word_up_to f_is_word_up_to fd_is_word_up_to
  b_is_word_up_to : Binds K fd_is_word_up_to ["letters", "value", "most"] []
  g_is_word_up_to : mg "is_word_up_to" = some (.ref f_is_word_up_to)
  f_check_letters : Addr
  fd_check_letters : FuncData
  F_check_letters : Fun K "check_letters" "check_letters" s_check_letters f_check_letters fd_check_letters
  b_check_letters : Binds K fd_check_letters ["letters"] []
  g_check_letters : mg "check_letters" = some (.ref f_check_letters)
  f_check_word : Addr
  fd_check_word : FuncData
  F_check_word : Fun K "check_word" "check_word" s_check_word f_check_word fd_check_word
  b_check_word : Binds K fd_check_word ["letters", "word"] []
  g_check_word : mg "check_word" = some (.ref f_check_word)
  f_check_states : Addr
  fd_check_states : FuncData
  F_check_states : Fun K "check_states" "check_states" s_check_states f_check_states fd_check_states
  b_check_states : Binds K fd_check_states ["count"] []
  g_check_states : mg "check_states" = some (.ref f_check_states)
  f_check_written : Addr
  fd_check_written : FuncData
  C_check_written : Addr
  P_check_written : Addr
  F_check_written : FunC K "check_written" "check_written" s_check_written f_check_written fd_check_written C_check_written
  B_check_written : LamX.TabB base mg C_check_written P_check_written
  m_check_written : (P_check_written, (Str.ofString "check_written" ++ ".<locals>.") ++ "<genexpr>") ∈ Tabl.T
  b_check_written : Binds K fd_check_written ["words"] []
  g_check_written : mg "check_written" = some (.ref f_check_written)
  f_checked_first : Addr
  fd_checked_first : FuncData
  F_checked_first : Fun K "checked_first" "checked_first" s_checked_first f_checked_first fd_checked_first
  b_checked_first : Binds K fd_checked_first ["write", "first"] []
  g_checked_first : mg "checked_first" = some (.ref f_checked_first)
  f_checked_rows : Addr
  fd_checked_rows : FuncData
  C_checked_rows : Addr
  P_checked_rows : Addr
  F_checked_rows : FunC K "checked_rows" "checked_rows" s_checked_rows f_checked_rows fd_checked_rows C_checked_rows
  B_checked_rows : LamX.TabB base mg C_checked_rows P_checked_rows
  m_checked_rows : (P_checked_rows, (Str.ofString "checked_rows" ++ ".<locals>.") ++ "<genexpr>") ∈ Tabl.T
  b_checked_rows : Binds K fd_checked_rows ["read", "write", "moves"] []
  g_checked_rows : mg "checked_rows" = some (.ref f_checked_rows)
  f_is_move : Addr
  fd_is_move : FuncData
  F_is_move : Fun K "is_move" "is_move" s_is_move f_is_move fd_is_move
  b_is_move : Binds K fd_is_move ["value", "write", "size"] []
  g_is_move : mg "is_move" = some (.ref f_is_move)
  f_checked_finals : Addr
  fd_checked_finals : FuncData
  F_checked_finals : Fun K "checked_finals" "checked_finals" s_checked_finals f_checked_finals fd_checked_finals
  b_checked_finals : Binds K fd_checked_finals ["write", "size", "finals"] []
  g_checked_finals : mg "checked_finals" = some (.ref f_checked_finals)
  f_built_reader : Addr
  fd_built_reader : FuncData
  F_built_reader : Fun K "built_reader" "built_reader" s_built_reader f_built_reader fd_built_reader
  b_built_reader : Binds K fd_built_reader ["read", "write", "first", "moves", "finals"] []
  g_built_reader : mg "built_reader" = some (.ref f_built_reader)
  f_empty_reader : Addr
  fd_empty_reader : FuncData
  F_empty_reader : Fun K "empty_reader" "empty_reader" s_empty_reader f_empty_reader fd_empty_reader
  b_empty_reader : Binds K fd_empty_reader ["read", "write"] []
  g_empty_reader : mg "empty_reader" = some (.ref f_empty_reader)
  f_run_over : Addr
  fd_run_over : FuncData
  F_run_over : Fun K "run_over" "run_over" s_run_over f_run_over fd_run_over
  b_run_over : Binds K fd_run_over ["reader", "state", "word"] []
  g_run_over : mg "run_over" = some (.ref f_run_over)
  f_told_by : Addr
  fd_told_by : FuncData
  F_told_by : Fun K "told_by" "told_by" s_told_by f_told_by fd_told_by
  b_told_by : Binds K fd_told_by ["reader", "word"] []
  g_told_by : mg "told_by" = some (.ref f_told_by)
  f_tail_of : Addr
  fd_tail_of : FuncData
  F_tail_of : Fun K "tail_of" "tail_of" s_tail_of f_tail_of fd_tail_of
  b_tail_of : Binds K fd_tail_of ["reader", "state", "word"] []
  g_tail_of : mg "tail_of" = some (.ref f_tail_of)
  f_chained : Addr
  fd_chained : FuncData
  F_chained : Fun K "chained" "chained" s_chained f_chained fd_chained
  b_chained : Binds K fd_chained ["first", "second"] []
  g_chained : mg "chained" = some (.ref f_chained)
  f_chained_finals : Addr
  fd_chained_finals : FuncData
  F_chained_finals : Fun K "chained_finals" "chained_finals" s_chained_finals f_chained_finals fd_chained_finals
  b_chained_finals : Binds K fd_chained_finals ["first", "second", "pairs"] []
  g_chained_finals : mg "chained_finals" = some (.ref f_chained_finals)
  f_mix : Addr
  fd_mix : FuncData
  F_mix : Fun K "_law_mix" "_law_mix" s_mix f_mix fd_mix
  b_mix : Binds K fd_mix ["number", "tick"] []
  g_mix : mg "_law_mix" = some (.ref f_mix)
  f_store : Addr
  fd_store : FuncData
  F_store : Fun K "_law_store" "_law_store" s_store f_store fd_store
  b_store : Binds K fd_store ["script"] []
  g_store : mg "_law_store" = some (.ref f_store)
  f_take : Addr
  fd_take : FuncData
  F_take : Fun K "_law_take" "_law_take" s_take f_take fd_take
  b_take : Binds K fd_take ["store", "many"] []
  g_take : mg "_law_take" = some (.ref f_take)
  f_pick : Addr
  fd_pick : FuncData
  F_pick : Fun K "_law_pick" "_law_pick" s_pick f_pick fd_pick
  b_pick : Binds K fd_pick ["store", "row"] []
  g_pick : mg "_law_pick" = some (.ref f_pick)
  f_between : Addr
  fd_between : FuncData
  F_between : Fun K "_law_between" "_law_between" s_between f_between fd_between
  b_between : Binds K fd_between ["store", "low", "high"] []
  g_between : mg "_law_between" = some (.ref f_between)
  f_big : Addr
  fd_big : FuncData
  F_big : Fun K "_law_big" "_law_big" s_big f_big fd_big
  b_big : Binds K fd_big ["store"] []
  g_big : mg "_law_big" = some (.ref f_big)
  f_order : Addr
  fd_order : FuncData
  F_order : Fun K "_law_order" "_law_order" s_order f_order fd_order
  b_order : Binds K fd_order ["store", "size"] []
  g_order : mg "_law_order" = some (.ref f_order)
  f_turned : Addr
  fd_turned : FuncData
  F_turned : Fun K "_law_turned" "_law_turned" s_turned f_turned fd_turned
  b_turned : Binds K fd_turned ["store", "row"] []
  g_turned : mg "_law_turned" = some (.ref f_turned)
  f_no_text : Addr
  fd_no_text : FuncData
  F_no_text : Fun K "_law_no_text" "_law_no_text" s_no_text f_no_text fd_no_text
  b_no_text : Binds K fd_no_text ["store"] []
  g_no_text : mg "_law_no_text" = some (.ref f_no_text)
  f_letters : Addr
  fd_letters : FuncData
  F_letters : Fun K "_law_letters" "_law_letters" s_letters f_letters fd_letters
  b_letters : Binds K fd_letters ["store", "limit"] []
  g_letters : mg "_law_letters" = some (.ref f_letters)
  f_stranger : Addr
  fd_stranger : FuncData
  F_stranger : Fun K "_law_stranger" "_law_stranger" s_stranger f_stranger fd_stranger
  b_stranger : Binds K fd_stranger ["store", "letters"] []
  g_stranger : mg "_law_stranger" = some (.ref f_stranger)
  f_word : Addr
  fd_word : FuncData
  F_word : Fun K "_law_word" "_law_word" s_word f_word fd_word
  b_word : Binds K fd_word ["store", "letters", "limit"] []
  g_word : mg "_law_word" = some (.ref f_word)
  f_not_letter : Addr
  fd_not_letter : FuncData
  F_not_letter : Fun K "_law_not_letter" "_law_not_letter" s_not_letter f_not_letter fd_not_letter
  b_not_letter : Binds K fd_not_letter ["store", "letters"] []
  g_not_letter : mg "_law_not_letter" = some (.ref f_not_letter)
  f_reader : Addr
  fd_reader : FuncData
  F_reader : Fun K "_law_reader" "_law_reader" s_reader f_reader fd_reader
  b_reader : Binds K fd_reader ["store", "read", "write", "limit"] []
  g_reader : mg "_law_reader" = some (.ref f_reader)
  f_wide_reader : Addr
  fd_wide_reader : FuncData
  F_wide_reader : Fun K "_law_wide_reader" "_law_wide_reader" s_wide_reader f_wide_reader fd_wide_reader
  b_wide_reader : Binds K fd_wide_reader ["store", "read", "write", "size"] []
  g_wide_reader : mg "_law_wide_reader" = some (.ref f_wide_reader)
  f_same : Addr
  fd_same : FuncData
  F_same : Fun K "_law_same" "_law_same" s_same f_same fd_same
  b_same : Binds K fd_same ["actual", "expected"] []
  g_same : mg "_law_same" = some (.ref f_same)
  f_copy : Addr
  fd_copy : FuncData
  F_copy : Fun K "_law_copy" "_law_copy" s_copy f_copy fd_copy
  b_copy : Binds K fd_copy ["value"] []
  g_copy : mg "_law_copy" = some (.ref f_copy)
  f_reader_of : Addr
  fd_reader_of : FuncData
  F_reader_of : Fun K "_law_reader_of" "_law_reader_of" s_reader_of f_reader_of fd_reader_of
  b_reader_of : Binds K fd_reader_of ["parts"] []
  g_reader_of : mg "_law_reader_of" = some (.ref f_reader_of)
  f_reader_parts_of : Addr
  fd_reader_parts_of : FuncData
  F_reader_parts_of : Fun K "_law_reader_parts_of" "_law_reader_parts_of" s_reader_parts_of f_reader_parts_of fd_reader_parts_of
  b_reader_parts_of : Binds K fd_reader_parts_of ["reader"] []
  g_reader_parts_of : mg "_law_reader_parts_of" = some (.ref f_reader_parts_of)
  f_seen : Addr
  fd_seen : FuncData
  F_seen : Fun K "_law_seen" "_law_seen" s_seen f_seen fd_seen
  b_seen : Binds K fd_seen ["session"] []
  g_seen : mg "_law_seen" = some (.ref f_seen)
  f_due : Addr
  fd_due : FuncData
  F_due : Fun K "_law_due" "_law_due" s_due f_due fd_due
  b_due : Binds K fd_due ["parts", "path", "shut"] []
  g_due : mg "_law_due" = some (.ref f_due)
  f_act : Addr
  fd_act : FuncData
  F_act : Fun K "_law_act" "_law_act" s_act f_act fd_act
  b_act : Binds K fd_act ["parts", "path", "shut", "deed"] []
  g_act : mg "_law_act" = some (.ref f_act)
  f_answer : Addr
  fd_answer : FuncData
  F_answer : Fun K "_law_answer" "_law_answer" s_answer f_answer fd_answer
  b_answer : Binds K fd_answer ["session", "deed"] []
  g_answer : mg "_law_answer" = some (.ref f_answer)
  f_run : Addr
  fd_run : FuncData
  F_run : Fun K "_law_run" "_law_run" s_run f_run fd_run
  b_run : Binds K fd_run ["worlds", "side", "deed", "whole"] []
  g_run : mg "_law_run" = some (.ref f_run)
  f_deed : Addr
  fd_deed : FuncData
  F_deed : Fun K "_law_deed" "_law_deed" s_deed f_deed fd_deed
  b_deed : Binds K fd_deed ["store", "world"] []
  g_deed : mg "_law_deed" = some (.ref f_deed)
  f_unwound : Addr
  fd_unwound : FuncData
  F_unwound : Fun K "_law_unwound" "_law_unwound" s_unwound f_unwound fd_unwound
  b_unwound : Binds K fd_unwound ["store", "worlds", "side"] []
  g_unwound : mg "_law_unwound" = some (.ref f_unwound)
  f_law : Addr
  fd_law : FuncData
  F_law : Fun K "law" "law" s_law f_law fd_law
  b_law : Binds K fd_law ["script"] []
  g_law : mg "law" = some (.ref f_law)
  C_LagError : Addr
  E_LagError : ErrT K mg "LagError" C_LagError
  C_BadLetters : Addr
  E_BadLetters : ErrT K mg "BadLetters" C_BadLetters
  I_BadLetters : Addr
  fdI_BadLetters : FuncData
  FI_BadLetters : Fun K "__init__" "BadLetters.__init__" si_BadLetters I_BadLetters fdI_BadLetters
  bI_BadLetters : Binds K fdI_BadLetters ["self", "value"] []
  iI_BadLetters : PySem.W.findIn K (.ref C_BadLetters) "__init__" = some (some (.ref I_BadLetters))
  tI_BadLetters : PySem.W.typeIn K (.ref I_BadLetters) = some (.type "function")
  no_BadLetters_value : PySem.W.findIn K (.ref C_BadLetters) "value" = some none
  C_BadWord : Addr
  E_BadWord : ErrT K mg "BadWord" C_BadWord
  I_BadWord : Addr
  fdI_BadWord : FuncData
  FI_BadWord : Fun K "__init__" "BadWord.__init__" si_BadWord I_BadWord fdI_BadWord
  bI_BadWord : Binds K fdI_BadWord ["self", "value"] []
  iI_BadWord : PySem.W.findIn K (.ref C_BadWord) "__init__" = some (some (.ref I_BadWord))
  tI_BadWord : PySem.W.typeIn K (.ref I_BadWord) = some (.type "function")
  no_BadWord_value : PySem.W.findIn K (.ref C_BadWord) "value" = some none
  C_BadNumber : Addr
  E_BadNumber : ErrT K mg "BadNumber" C_BadNumber
  I_BadNumber : Addr
  fdI_BadNumber : FuncData
  FI_BadNumber : Fun K "__init__" "BadNumber.__init__" si_BadNumber I_BadNumber fdI_BadNumber
  bI_BadNumber : Binds K fdI_BadNumber ["self", "value"] []
  iI_BadNumber : PySem.W.findIn K (.ref C_BadNumber) "__init__" = some (some (.ref I_BadNumber))
  tI_BadNumber : PySem.W.typeIn K (.ref I_BadNumber) = some (.type "function")
  no_BadNumber_value : PySem.W.findIn K (.ref C_BadNumber) "value" = some none
  C_BadEntry : Addr
  E_BadEntry : ErrT K mg "BadEntry" C_BadEntry
  I_BadEntry : Addr
  fdI_BadEntry : FuncData
  FI_BadEntry : Fun K "__init__" "BadEntry.__init__" si_BadEntry I_BadEntry fdI_BadEntry
  bI_BadEntry : Binds K fdI_BadEntry ["self", "place", "index"] []
  iI_BadEntry : PySem.W.findIn K (.ref C_BadEntry) "__init__" = some (some (.ref I_BadEntry))
  tI_BadEntry : PySem.W.typeIn K (.ref I_BadEntry) = some (.type "function")
  no_BadEntry_place : PySem.W.findIn K (.ref C_BadEntry) "place" = some none
  no_BadEntry_index : PySem.W.findIn K (.ref C_BadEntry) "index" = some none
  C_Mismatch : Addr
  E_Mismatch : ErrT K mg "Mismatch" C_Mismatch
  xi_Mismatch : PySem.W.excIn K C_Mismatch [.type "ValueError", .type "Exception", .type "BaseException", .type "object"] "ValueError.__new__" = true
  C_TooLarge : Addr
  E_TooLarge : ErrT K mg "TooLarge" C_TooLarge
  I_TooLarge : Addr
  fdI_TooLarge : FuncData
  FI_TooLarge : Fun K "__init__" "TooLarge.__init__" si_TooLarge I_TooLarge fdI_TooLarge
  bI_TooLarge : Binds K fdI_TooLarge ["self", "what", "limit"] []
  iI_TooLarge : PySem.W.findIn K (.ref C_TooLarge) "__init__" = some (some (.ref I_TooLarge))
  tI_TooLarge : PySem.W.typeIn K (.ref I_TooLarge) = some (.type "function")
  no_TooLarge_what : PySem.W.findIn K (.ref C_TooLarge) "what" = some none
  no_TooLarge_limit : PySem.W.findIn K (.ref C_TooLarge) "limit" = some none
  C_NoMove : Addr
  E_NoMove : ErrT K mg "NoMove" C_NoMove
  I_NoMove : Addr
  fdI_NoMove : FuncData
  FI_NoMove : Fun K "__init__" "NoMove.__init__" si_NoMove I_NoMove fdI_NoMove
  bI_NoMove : Binds K fdI_NoMove ["self", "letter"] []
  iI_NoMove : PySem.W.findIn K (.ref C_NoMove) "__init__" = some (some (.ref I_NoMove))
  tI_NoMove : PySem.W.typeIn K (.ref I_NoMove) = some (.type "function")
  no_NoMove_letter : PySem.W.findIn K (.ref C_NoMove) "letter" = some none
  C_NotFinal : Addr
  E_NotFinal : ErrT K mg "NotFinal" C_NotFinal
  xi_NotFinal : PySem.W.excIn K C_NotFinal [.type "ValueError", .type "Exception", .type "BaseException", .type "object"] "ValueError.__new__" = true
  C_Closed : Addr
  E_Closed : ErrT K mg "Closed" C_Closed
  xi_Closed : PySem.W.excIn K C_Closed [.type "ValueError", .type "Exception", .type "BaseException", .type "object"] "ValueError.__new__" = true
  C_NothingToUndo : Addr
  E_NothingToUndo : ErrT K mg "NothingToUndo" C_NothingToUndo
  xi_NothingToUndo : PySem.W.excIn K C_NothingToUndo [.type "ValueError", .type "Exception", .type "BaseException", .type "object"] "ValueError.__new__" = true
  C_Session : Addr
  cl_Session : Cls K C_Session
  mg_Session : mg "Session" = some (.ref C_Session)
  no_Session__reader : NoAttr K C_Session "_reader"
  no_Session__alphabet : NoAttr K C_Session "_alphabet"
  no_Session__first : NoAttr K C_Session "_first"
  no_Session__lines : NoAttr K C_Session "_lines"
  no_Session__lasts : NoAttr K C_Session "_lasts"
  no_Session__pushed : NoAttr K C_Session "_pushed"
  no_Session__states : NoAttr K C_Session "_states"
  no_Session__closed : NoAttr K C_Session "_closed"
  C_Reader : Addr
  cl_Reader : Cls K C_Reader
  mg_Reader : mg "Reader" = some (.ref C_Reader)
  no_Reader__read : NoAttr K C_Reader "_read"
  no_Reader__write : NoAttr K C_Reader "_write"
  no_Reader__first : NoAttr K C_Reader "_first"
  no_Reader__moves : NoAttr K C_Reader "_moves"
  no_Reader__finals : NoAttr K C_Reader "_finals"
  f_Session___init__ : Addr
  fd_Session___init__ : FuncData
  F_Session___init__ : Fun K "__init__" "Session.__init__" s_Session___init__ f_Session___init__ fd_Session___init__
  M_Session : Mk K C_Session f_Session___init__
  kr_Session_0 : Vals [] []
  kb_Session_0 : Binds K fd_Session___init__ ["self", "reader"] []
  f_Session_state : Addr
  fd_Session_state : FuncData
  F_Session_state : Fun K "state" "Session.state" s_Session_state f_Session_state fd_Session_state
  b_Session_state : Binds K fd_Session_state ["self"] []
  pa_Session_state : Addr
  p_Session_state : PropOf K C_Session "state" pa_Session_state f_Session_state
  f_Session_taken : Addr
  fd_Session_taken : FuncData
  F_Session_taken : Fun K "taken" "Session.taken" s_Session_taken f_Session_taken fd_Session_taken
  b_Session_taken : Binds K fd_Session_taken ["self"] []
  pa_Session_taken : Addr
  p_Session_taken : PropOf K C_Session "taken" pa_Session_taken f_Session_taken
  f_Session_written : Addr
  fd_Session_written : FuncData
  F_Session_written : Fun K "written" "Session.written" s_Session_written f_Session_written fd_Session_written
  b_Session_written : Binds K fd_Session_written ["self"] []
  pa_Session_written : Addr
  p_Session_written : PropOf K C_Session "written" pa_Session_written f_Session_written
  f_Session_held : Addr
  fd_Session_held : FuncData
  F_Session_held : Fun K "held" "Session.held" s_Session_held f_Session_held fd_Session_held
  b_Session_held : Binds K fd_Session_held ["self"] []
  pa_Session_held : Addr
  p_Session_held : PropOf K C_Session "held" pa_Session_held f_Session_held
  f_Session_closed : Addr
  fd_Session_closed : FuncData
  F_Session_closed : Fun K "closed" "Session.closed" s_Session_closed f_Session_closed fd_Session_closed
  b_Session_closed : Binds K fd_Session_closed ["self"] []
  pa_Session_closed : Addr
  p_Session_closed : PropOf K C_Session "closed" pa_Session_closed f_Session_closed
  f_Session___len__ : Addr
  fd_Session___len__ : FuncData
  F_Session___len__ : Fun K "__len__" "Session.__len__" s_Session___len__ f_Session___len__ fd_Session___len__
  b_Session___len__ : Binds K fd_Session___len__ ["self"] []
  h_Session___len__ : PySem.W.findIn K (.ref C_Session) "__len__" = some (some (.ref f_Session___len__))
  i_Session___len__ : PySem.W.isFn K (.ref f_Session___len__) = true
  f_Session___iter__ : Addr
  fd_Session___iter__ : FuncData
  F_Session___iter__ : Fun K "__iter__" "Session.__iter__" s_Session___iter__ f_Session___iter__ fd_Session___iter__
  b_Session___iter__ : Binds K fd_Session___iter__ ["self"] []
  h_Session___iter__ : PySem.W.findIn K (.ref C_Session) "__iter__" = some (some (.ref f_Session___iter__))
  i_Session___iter__ : PySem.W.isFn K (.ref f_Session___iter__) = true
  f_Session_push : Addr
  fd_Session_push : FuncData
  F_Session_push : Fun K "push" "Session.push" s_Session_push f_Session_push fd_Session_push
  b_Session_push : Binds K fd_Session_push ["self", "letter"] []
  m_Session_push : Meth K C_Session "push" f_Session_push
  f_Session_reads : Addr
  fd_Session_reads : FuncData
  F_Session_reads : Fun K "reads" "Session.reads" s_Session_reads f_Session_reads fd_Session_reads
  b_Session_reads : Binds K fd_Session_reads ["self", "value"] []
  m_Session_reads : Meth K C_Session "reads" f_Session_reads
  f_Session_close : Addr
  fd_Session_close : FuncData
  F_Session_close : Fun K "close" "Session.close" s_Session_close f_Session_close fd_Session_close
  b_Session_close : Binds K fd_Session_close ["self"] []
  m_Session_close : Meth K C_Session "close" f_Session_close
  f_Session_back : Addr
  fd_Session_back : FuncData
  F_Session_back : Fun K "back" "Session.back" s_Session_back f_Session_back fd_Session_back
  b_Session_back : Binds K fd_Session_back ["self"] []
  m_Session_back : Meth K C_Session "back" f_Session_back
  f_Session_twin : Addr
  fd_Session_twin : FuncData
  F_Session_twin : Fun K "twin" "Session.twin" s_Session_twin f_Session_twin fd_Session_twin
  b_Session_twin : Binds K fd_Session_twin ["self"] []
  m_Session_twin : Meth K C_Session "twin" f_Session_twin
  f_Reader___init__ : Addr
  fd_Reader___init__ : FuncData
  F_Reader___init__ : Fun K "__init__" "Reader.__init__" s_Reader___init__ f_Reader___init__ fd_Reader___init__
  M_Reader : Mk K C_Reader f_Reader___init__
  kr_Reader_0 : Vals [] []
  kb_Reader_0 : Binds K fd_Reader___init__ ["self", "read", "write", "first", "moves", "finals"] []
  f_Reader_read : Addr
  fd_Reader_read : FuncData
  F_Reader_read : Fun K "read" "Reader.read" s_Reader_read f_Reader_read fd_Reader_read
  b_Reader_read : Binds K fd_Reader_read ["self"] []
  pa_Reader_read : Addr
  p_Reader_read : PropOf K C_Reader "read" pa_Reader_read f_Reader_read
  f_Reader_write : Addr
  fd_Reader_write : FuncData
  F_Reader_write : Fun K "write" "Reader.write" s_Reader_write f_Reader_write fd_Reader_write
  b_Reader_write : Binds K fd_Reader_write ["self"] []
  pa_Reader_write : Addr
  p_Reader_write : PropOf K C_Reader "write" pa_Reader_write f_Reader_write
  f_Reader_first : Addr
  fd_Reader_first : FuncData
  F_Reader_first : Fun K "first" "Reader.first" s_Reader_first f_Reader_first fd_Reader_first
  b_Reader_first : Binds K fd_Reader_first ["self"] []
  pa_Reader_first : Addr
  p_Reader_first : PropOf K C_Reader "first" pa_Reader_first f_Reader_first
  f_Reader_moves : Addr
  fd_Reader_moves : FuncData
  F_Reader_moves : Fun K "moves" "Reader.moves" s_Reader_moves f_Reader_moves fd_Reader_moves
  b_Reader_moves : Binds K fd_Reader_moves ["self"] []
  pa_Reader_moves : Addr
  p_Reader_moves : PropOf K C_Reader "moves" pa_Reader_moves f_Reader_moves
  f_Reader_finals : Addr
  fd_Reader_finals : FuncData
  F_Reader_finals : Fun K "finals" "Reader.finals" s_Reader_finals f_Reader_finals fd_Reader_finals
  b_Reader_finals : Binds K fd_Reader_finals ["self"] []
  pa_Reader_finals : Addr
  p_Reader_finals : PropOf K C_Reader "finals" pa_Reader_finals f_Reader_finals
  f_Reader___len__ : Addr
  fd_Reader___len__ : FuncData
  F_Reader___len__ : Fun K "__len__" "Reader.__len__" s_Reader___len__ f_Reader___len__ fd_Reader___len__
  b_Reader___len__ : Binds K fd_Reader___len__ ["self"] []
  h_Reader___len__ : PySem.W.findIn K (.ref C_Reader) "__len__" = some (some (.ref f_Reader___len__))
  i_Reader___len__ : PySem.W.isFn K (.ref f_Reader___len__) = true
  f_Reader___rshift__ : Addr
  fd_Reader___rshift__ : FuncData
  F_Reader___rshift__ : Fun K "__rshift__" "Reader.__rshift__" s_Reader___rshift__ f_Reader___rshift__ fd_Reader___rshift__
  b_Reader___rshift__ : Binds K fd_Reader___rshift__ ["self", "other"] []
  h_Reader___rshift__ : PySem.W.findIn K (.ref C_Reader) "__rshift__" = some (some (.ref f_Reader___rshift__))
  i_Reader___rshift__ : PySem.W.isFn K (.ref f_Reader___rshift__) = true
  f_Reader_state_after : Addr
  fd_Reader_state_after : FuncData
  F_Reader_state_after : Fun K "state_after" "Reader.state_after" s_Reader_state_after f_Reader_state_after fd_Reader_state_after
  b_Reader_state_after : Binds K fd_Reader_state_after ["self", "word"] []
  m_Reader_state_after : Meth K C_Reader "state_after" f_Reader_state_after
  f_Reader_written_after : Addr
  fd_Reader_written_after : FuncData
  F_Reader_written_after : Fun K "written_after" "Reader.written_after" s_Reader_written_after f_Reader_written_after fd_Reader_written_after
  b_Reader_written_after : Binds K fd_Reader_written_after ["self", "word"] []
  m_Reader_written_after : Meth K C_Reader "written_after" f_Reader_written_after
  f_Reader_tell : Addr
  fd_Reader_tell : FuncData
  F_Reader_tell : Fun K "tell" "Reader.tell" s_Reader_tell f_Reader_tell fd_Reader_tell
  b_Reader_tell : Binds K fd_Reader_tell ["self", "word"] []
  m_Reader_tell : Meth K C_Reader "tell" f_Reader_tell
  f_Reader_tail : Addr
  fd_Reader_tail : FuncData
  F_Reader_tail : Fun K "tail" "Reader.tail" s_Reader_tail f_Reader_tail fd_Reader_tail
  b_Reader_tail : Binds K fd_Reader_tail ["self", "state", "word"] []
  m_Reader_tail : Meth K C_Reader "tail" f_Reader_tail
  k_BadLetters_BadWord : PySem.W.kitOne K (.ref C_BadLetters) (.ref C_BadWord) = some false
  k_BadLetters_Closed : PySem.W.kitOne K (.ref C_BadLetters) (.ref C_Closed) = some false
  k_BadLetters_NoMove : PySem.W.kitOne K (.ref C_BadLetters) (.ref C_NoMove) = some false
  k_BadLetters_NotFinal : PySem.W.kitOne K (.ref C_BadLetters) (.ref C_NotFinal) = some false
  k_BadLetters_NothingToUndo : PySem.W.kitOne K (.ref C_BadLetters) (.ref C_NothingToUndo) = some false
  k_BadLetters_BadLetters : PySem.W.kitOne K (.ref C_BadLetters) (.ref C_BadLetters) = some true
  k_BadLetters_BadNumber : PySem.W.kitOne K (.ref C_BadLetters) (.ref C_BadNumber) = some false
  k_BadLetters_Mismatch : PySem.W.kitOne K (.ref C_BadLetters) (.ref C_Mismatch) = some false
  k_BadLetters_TooLarge : PySem.W.kitOne K (.ref C_BadLetters) (.ref C_TooLarge) = some false
  k_BadLetters_ValueError : PySem.W.kitOne K (.ref C_BadLetters) (.type "ValueError") = some true
  x_BadLetters_LagError : PySem.W.exmOne K (.ref C_BadLetters) (.ref C_LagError) = some true
  k_BadWord_BadWord : PySem.W.kitOne K (.ref C_BadWord) (.ref C_BadWord) = some true
  k_BadWord_Closed : PySem.W.kitOne K (.ref C_BadWord) (.ref C_Closed) = some false
  k_BadWord_NoMove : PySem.W.kitOne K (.ref C_BadWord) (.ref C_NoMove) = some false
  k_BadWord_NotFinal : PySem.W.kitOne K (.ref C_BadWord) (.ref C_NotFinal) = some false
  k_BadWord_NothingToUndo : PySem.W.kitOne K (.ref C_BadWord) (.ref C_NothingToUndo) = some false
  k_BadWord_BadLetters : PySem.W.kitOne K (.ref C_BadWord) (.ref C_BadLetters) = some false
  k_BadWord_BadNumber : PySem.W.kitOne K (.ref C_BadWord) (.ref C_BadNumber) = some false
  k_BadWord_Mismatch : PySem.W.kitOne K (.ref C_BadWord) (.ref C_Mismatch) = some false
  k_BadWord_TooLarge : PySem.W.kitOne K (.ref C_BadWord) (.ref C_TooLarge) = some false
  k_BadWord_ValueError : PySem.W.kitOne K (.ref C_BadWord) (.type "ValueError") = some true
  x_BadWord_LagError : PySem.W.exmOne K (.ref C_BadWord) (.ref C_LagError) = some true
  k_TooLarge_BadWord : PySem.W.kitOne K (.ref C_TooLarge) (.ref C_BadWord) = some false
  k_TooLarge_Closed : PySem.W.kitOne K (.ref C_TooLarge) (.ref C_Closed) = some false
  k_TooLarge_NoMove : PySem.W.kitOne K (.ref C_TooLarge) (.ref C_NoMove) = some false
  k_TooLarge_NotFinal : PySem.W.kitOne K (.ref C_TooLarge) (.ref C_NotFinal) = some false
  k_TooLarge_NothingToUndo : PySem.W.kitOne K (.ref C_TooLarge) (.ref C_NothingToUndo) = some false
  k_TooLarge_BadLetters : PySem.W.kitOne K (.ref C_TooLarge) (.ref C_BadLetters) = some false
  k_TooLarge_BadNumber : PySem.W.kitOne K (.ref C_TooLarge) (.ref C_BadNumber) = some false
  k_TooLarge_Mismatch : PySem.W.kitOne K (.ref C_TooLarge) (.ref C_Mismatch) = some false
  k_TooLarge_TooLarge : PySem.W.kitOne K (.ref C_TooLarge) (.ref C_TooLarge) = some true
  k_TooLarge_ValueError : PySem.W.kitOne K (.ref C_TooLarge) (.type "ValueError") = some true
  x_TooLarge_LagError : PySem.W.exmOne K (.ref C_TooLarge) (.ref C_LagError) = some true
  k_BadEntry_BadWord : PySem.W.kitOne K (.ref C_BadEntry) (.ref C_BadWord) = some false
  k_BadEntry_Closed : PySem.W.kitOne K (.ref C_BadEntry) (.ref C_Closed) = some false
  k_BadEntry_NoMove : PySem.W.kitOne K (.ref C_BadEntry) (.ref C_NoMove) = some false
  k_BadEntry_NotFinal : PySem.W.kitOne K (.ref C_BadEntry) (.ref C_NotFinal) = some false
  k_BadEntry_NothingToUndo : PySem.W.kitOne K (.ref C_BadEntry) (.ref C_NothingToUndo) = some false
  k_BadEntry_BadLetters : PySem.W.kitOne K (.ref C_BadEntry) (.ref C_BadLetters) = some false
  k_BadEntry_BadNumber : PySem.W.kitOne K (.ref C_BadEntry) (.ref C_BadNumber) = some false
  k_BadEntry_Mismatch : PySem.W.kitOne K (.ref C_BadEntry) (.ref C_Mismatch) = some false
  k_BadEntry_TooLarge : PySem.W.kitOne K (.ref C_BadEntry) (.ref C_TooLarge) = some false
  k_BadEntry_ValueError : PySem.W.kitOne K (.ref C_BadEntry) (.type "ValueError") = some true
  x_BadEntry_LagError : PySem.W.exmOne K (.ref C_BadEntry) (.ref C_LagError) = some true
  k_Mismatch_BadWord : PySem.W.kitOne K (.ref C_Mismatch) (.ref C_BadWord) = some false
  k_Mismatch_Closed : PySem.W.kitOne K (.ref C_Mismatch) (.ref C_Closed) = some false
  k_Mismatch_NoMove : PySem.W.kitOne K (.ref C_Mismatch) (.ref C_NoMove) = some false
  k_Mismatch_NotFinal : PySem.W.kitOne K (.ref C_Mismatch) (.ref C_NotFinal) = some false
  k_Mismatch_NothingToUndo : PySem.W.kitOne K (.ref C_Mismatch) (.ref C_NothingToUndo) = some false
  k_Mismatch_BadLetters : PySem.W.kitOne K (.ref C_Mismatch) (.ref C_BadLetters) = some false
  k_Mismatch_BadNumber : PySem.W.kitOne K (.ref C_Mismatch) (.ref C_BadNumber) = some false
  k_Mismatch_Mismatch : PySem.W.kitOne K (.ref C_Mismatch) (.ref C_Mismatch) = some true
  k_Mismatch_TooLarge : PySem.W.kitOne K (.ref C_Mismatch) (.ref C_TooLarge) = some false
  k_Mismatch_ValueError : PySem.W.kitOne K (.ref C_Mismatch) (.type "ValueError") = some true
  x_Mismatch_LagError : PySem.W.exmOne K (.ref C_Mismatch) (.ref C_LagError) = some true
  k_Closed_BadWord : PySem.W.kitOne K (.ref C_Closed) (.ref C_BadWord) = some false
  k_Closed_Closed : PySem.W.kitOne K (.ref C_Closed) (.ref C_Closed) = some true
  k_Closed_NoMove : PySem.W.kitOne K (.ref C_Closed) (.ref C_NoMove) = some false
  k_Closed_NotFinal : PySem.W.kitOne K (.ref C_Closed) (.ref C_NotFinal) = some false
  k_Closed_NothingToUndo : PySem.W.kitOne K (.ref C_Closed) (.ref C_NothingToUndo) = some false
  k_Closed_BadLetters : PySem.W.kitOne K (.ref C_Closed) (.ref C_BadLetters) = some false
  k_Closed_BadNumber : PySem.W.kitOne K (.ref C_Closed) (.ref C_BadNumber) = some false
  k_Closed_Mismatch : PySem.W.kitOne K (.ref C_Closed) (.ref C_Mismatch) = some false
  k_Closed_TooLarge : PySem.W.kitOne K (.ref C_Closed) (.ref C_TooLarge) = some false
  k_Closed_ValueError : PySem.W.kitOne K (.ref C_Closed) (.type "ValueError") = some true
  x_Closed_LagError : PySem.W.exmOne K (.ref C_Closed) (.ref C_LagError) = some true
  k_NoMove_BadWord : PySem.W.kitOne K (.ref C_NoMove) (.ref C_BadWord) = some false
  k_NoMove_Closed : PySem.W.kitOne K (.ref C_NoMove) (.ref C_Closed) = some false
  k_NoMove_NoMove : PySem.W.kitOne K (.ref C_NoMove) (.ref C_NoMove) = some true
  k_NoMove_NotFinal : PySem.W.kitOne K (.ref C_NoMove) (.ref C_NotFinal) = some false
  k_NoMove_NothingToUndo : PySem.W.kitOne K (.ref C_NoMove) (.ref C_NothingToUndo) = some false
  k_NoMove_BadLetters : PySem.W.kitOne K (.ref C_NoMove) (.ref C_BadLetters) = some false
  k_NoMove_BadNumber : PySem.W.kitOne K (.ref C_NoMove) (.ref C_BadNumber) = some false
  k_NoMove_Mismatch : PySem.W.kitOne K (.ref C_NoMove) (.ref C_Mismatch) = some false
  k_NoMove_TooLarge : PySem.W.kitOne K (.ref C_NoMove) (.ref C_TooLarge) = some false
  k_NoMove_ValueError : PySem.W.kitOne K (.ref C_NoMove) (.type "ValueError") = some true
  x_NoMove_LagError : PySem.W.exmOne K (.ref C_NoMove) (.ref C_LagError) = some true
  k_NotFinal_BadWord : PySem.W.kitOne K (.ref C_NotFinal) (.ref C_BadWord) = some false
  k_NotFinal_Closed : PySem.W.kitOne K (.ref C_NotFinal) (.ref C_Closed) = some false
  k_NotFinal_NoMove : PySem.W.kitOne K (.ref C_NotFinal) (.ref C_NoMove) = some false
  k_NotFinal_NotFinal : PySem.W.kitOne K (.ref C_NotFinal) (.ref C_NotFinal) = some true
  k_NotFinal_NothingToUndo : PySem.W.kitOne K (.ref C_NotFinal) (.ref C_NothingToUndo) = some false
  k_NotFinal_BadLetters : PySem.W.kitOne K (.ref C_NotFinal) (.ref C_BadLetters) = some false
  k_NotFinal_BadNumber : PySem.W.kitOne K (.ref C_NotFinal) (.ref C_BadNumber) = some false
  k_NotFinal_Mismatch : PySem.W.kitOne K (.ref C_NotFinal) (.ref C_Mismatch) = some false
  k_NotFinal_TooLarge : PySem.W.kitOne K (.ref C_NotFinal) (.ref C_TooLarge) = some false
  k_NotFinal_ValueError : PySem.W.kitOne K (.ref C_NotFinal) (.type "ValueError") = some true
  x_NotFinal_LagError : PySem.W.exmOne K (.ref C_NotFinal) (.ref C_LagError) = some true
  k_NothingToUndo_BadWord : PySem.W.kitOne K (.ref C_NothingToUndo) (.ref C_BadWord) = some false
  k_NothingToUndo_Closed : PySem.W.kitOne K (.ref C_NothingToUndo) (.ref C_Closed) = some false
  k_NothingToUndo_NoMove : PySem.W.kitOne K (.ref C_NothingToUndo) (.ref C_NoMove) = some false
  k_NothingToUndo_NotFinal : PySem.W.kitOne K (.ref C_NothingToUndo) (.ref C_NotFinal) = some false
  k_NothingToUndo_NothingToUndo : PySem.W.kitOne K (.ref C_NothingToUndo) (.ref C_NothingToUndo) = some true
  k_NothingToUndo_BadLetters : PySem.W.kitOne K (.ref C_NothingToUndo) (.ref C_BadLetters) = some false
  k_NothingToUndo_BadNumber : PySem.W.kitOne K (.ref C_NothingToUndo) (.ref C_BadNumber) = some false
  k_NothingToUndo_Mismatch : PySem.W.kitOne K (.ref C_NothingToUndo) (.ref C_Mismatch) = some false
  k_NothingToUndo_TooLarge : PySem.W.kitOne K (.ref C_NothingToUndo) (.ref C_TooLarge) = some false
  k_NothingToUndo_ValueError : PySem.W.kitOne K (.ref C_NothingToUndo) (.type "ValueError") = some true
  x_NothingToUndo_LagError : PySem.W.exmOne K (.ref C_NothingToUndo) (.ref C_LagError) = some true
  z_ValueError : mg "ValueError" = none
  z_all : mg "all" = none
  z_any : mg "any" = none
  z_bool : mg "bool" = none
  z_enumerate : mg "enumerate" = none
  z_int : mg "int" = none
  z_isinstance : mg "isinstance" = none
  z_iter : mg "iter" = none
  z_len : mg "len" = none
  z_list : mg "list" = none
  z_max : mg "max" = none
  z_min : mg "min" = none
  z_range : mg "range" = none
  z_set : mg "set" = none
  z_sorted : mg "sorted" = none
  z_str : mg "str" = none
  z_tuple : mg "tuple" = none
  t_MAX_LETTERS : Tok
  c_MAX_LETTERS : mg "MAX_LETTERS" = some (.int 4 t_MAX_LETTERS)
  t_MAX_READ : Tok
  c_MAX_READ : mg "MAX_READ" = some (.int 4000 t_MAX_READ)
  t_MAX_WRITTEN : Tok
  c_MAX_WRITTEN : mg "MAX_WRITTEN" = some (.int 400 t_MAX_WRITTEN)
  t_MAX_STATES : Tok
  c_MAX_STATES : mg "MAX_STATES" = some (.int 64 t_MAX_STATES)
  t_SMALL_LETTERS : Tok
  c_SMALL_LETTERS : mg "SMALL_LETTERS" = some (.str "abcdefghijklmnopqrstuvwxyz" t_SMALL_LETTERS)
section
variable [Tabl] {P : Program} {w : World} {K : PySem.W.Frag} {mg : Str → Option Value} {base : Heap}
def sp_Reader_finals (C : Addr) (_ : PySem.W.Frag) : Sp := fun vs H Q _ => ∃ (a dx : Addr) (fs : List (Str × V)) (l : Addr) (xs : List V), vs = [.ref a] ∧ H a = some (.ins C dx fs) ∧ fs.lookup ("_finals" : Str) = some (.ref l) ∧ H l = some (.lst xs) ∧ ∀ p, H p = none → Q (.ref p) (upd H p (.lst xs))
theorem ok_Reader_finals (T : Txt K mg base) : FnOk P w K mg base CX0 (0 + 1) T.f_Reader_finals T.fd_Reader_finals ["self"] (sp_Reader_finals T.C_Reader K) := by
  refine T.F_Reader_finals.ok sc_Reader_finals (fun vs H Q E h => ?_) (fun cdv A outer s H vs Q E hr h => ?_)
  · obtain ⟨a, dx, fs, l, xs, rfl, _⟩ := h
    rfl
  · obtain ⟨a, dx, fs, l, xs, rfl, ha, lk, hl, q⟩ := h
    refine ⟨_, (pss_one (ps_ret (pe_callTy call_list_of (by rfl) T.z_list (by decide +kernel) (pa_cons (pe_fld (pv 0) rfl) pa_nil)))), ?_⟩
    exact ⟨_, rfl, a, _, dx, fs, _, rfl, ha, T.cl_Reader, T.no_Reader__finals, lk, l, xs, rfl, .inl (.inl (.inl hl)), q⟩

def sp_Reader_first (C : Addr) (_ : PySem.W.Frag) : Sp := fun vs H Q _ => ∃ (a dx : Addr) (fs : List (Str × V)) (v : V), vs = [.ref a] ∧ H a = some (.ins C dx fs) ∧ fs.lookup ("_first" : Str) = some v ∧ Q v H
theorem ok_Reader_first (T : Txt K mg base) : FnOk P w K mg base CX0 (0 + 1) T.f_Reader_first T.fd_Reader_first ["self"] (sp_Reader_first T.C_Reader K) := by
  refine T.F_Reader_first.ok sc_Reader_first (fun vs H Q E h => ?_) (fun cdv A outer s H vs Q E hr h => ?_)
  · obtain ⟨a, dx, fs, v, rfl, _⟩ := h
    rfl
  · obtain ⟨a, dx, fs, v, rfl, ha, l, q⟩ := h
    refine ⟨_, (pss_one (ps_ret (pe_fld (pv 0) rfl))), ?_⟩
    exact ⟨_, rfl, a, _, dx, fs, v, rfl, ha, T.cl_Reader, T.no_Reader__first, l, q⟩

def sp_Reader_moves [Tabl] (C : Addr) (_ : PySem.W.Frag) : Sp := fun vs H Q _ => ∃ (a dx : Addr) (fs : List (Str × V)) (M : Addr) (mv : Grid) (L : List Addr), vs = [.ref a] ∧ H a = some (.ins C dx fs) ∧ fs.lookup ("_moves" : Str) = some (.ref M) ∧ GridL L H M mv ∧ mv.length ≤ 64 ∧ ∀ (N : Addr) (H' : Hp), Same H H' → GridN H H' N mv → Q (.ref N) H'
theorem ok_Reader_moves (T : Txt K mg base) : FnOk P w K mg base CX0 (0 + 1) T.f_Reader_moves T.fd_Reader_moves ["self"] (sp_Reader_moves T.C_Reader K) := by
  refine T.F_Reader_moves.ok sc_Reader_moves (fun vs H Q E h => ?_) (fun cdv A outer s H vs Q E hr h => ?_)
  · obtain ⟨a, dx, fs, M, mv, L, rfl, _⟩ := h
    rfl
  · obtain ⟨a, dx, fs, M, mv, L, rfl, ha, lk, ⟨nM, rows, hM, pr⟩, l64, q⟩ := h
    refine ⟨_, (pss_one (ps_ret (pe_lc (own := [("row", 1)]) (g := gName 1) rfl sc_Reader_moves.nd (pi_list (pe_fld (pv 0) rfl)) (blkOk_by (N := ["self", "row"]) (sc := defScope s_Reader_moves) (by decide +kernel)) (fun _ _ _ _ _ => pg_name (i := 1) sc_Reader_moves.nd rfl (Or.inl rfl)) (fun _ _ _ _ _ => pts_nil) (fun _ _ _ _ _ => (pe_callTy (call_list_ofK K rfl) (by rfl) T.z_list (by decide +kernel) (pa_cons (pv 1) pa_nil)))))), ?_⟩
    refine ⟨_, rfl, a, _, dx, fs, _, rfl, ha, T.cl_Reader, T.no_Reader__moves, lk, M, rfl, ⟨_, .inl (.inl hM)⟩, fun D nD => ?_⟩
    exact lc_copy (L := L) nD hM pr (by omega) (fun p xs Hg k N hp hk => ⟨rfl, _, rfl, p, xs, rfl, .inl (.inl (.inl hp)), hk⟩) fun Hg sg gn => q D Hg sg gn

def sp_Reader_read (C : Addr) (_ : PySem.W.Frag) : Sp := fun vs H Q _ => ∃ (a dx : Addr) (fs : List (Str × V)) (v : V), vs = [.ref a] ∧ H a = some (.ins C dx fs) ∧ fs.lookup ("_read" : Str) = some v ∧ Q v H
theorem ok_Reader_read (T : Txt K mg base) : FnOk P w K mg base CX0 (0 + 1) T.f_Reader_read T.fd_Reader_read ["self"] (sp_Reader_read T.C_Reader K) := by
  refine T.F_Reader_read.ok sc_Reader_read (fun vs H Q E h => ?_) (fun cdv A outer s H vs Q E hr h => ?_)
  · obtain ⟨a, dx, fs, v, rfl, _⟩ := h
    rfl
  · obtain ⟨a, dx, fs, v, rfl, ha, l, q⟩ := h
    refine ⟨_, (pss_one (ps_ret (pe_fld (pv 0) rfl))), ?_⟩
    exact ⟨_, rfl, a, _, dx, fs, v, rfl, ha, T.cl_Reader, T.no_Reader__read, l, q⟩

def sp_Session___init__ [Tabl] (C CR : Addr) (K : PySem.W.Frag) : Sp := fun vs H Q _ => ∃ (s dx m dy M0 F0 : Addr) (r z f : Str) (mv : Grid) (fin : List (Option Str)) (L0 : List Addr), vs = [.ref s, .ref m] ∧ H s = some (.ins C dx []) ∧ RA CR L0 H m r z f mv fin dy M0 F0 ∧ mv.length ≤ 64 ∧
  ∀ (M F P S : Addr) (H' : Hp), But s H H' → (∀ L, (∀ c ∈ L, H c ≠ none) → SeA C L H' s r f mv fin dx m M F P S [] [] 0 false) → H P = none → H S = none → Q .non H'
theorem ok_Session___init__ (T : Txt K mg base) : FnOk P w K mg base CX0 (2 + 1) T.f_Session___init__ T.fd_Session___init__ ["self", "reader"] (sp_Session___init__ T.C_Session T.C_Reader K) := by
  refine T.F_Session___init__.ok sc_Session___init__ (fun vs H Q E h => ?_) (fun cdv A outer st H vs Q E hr h => ?_)
  · obtain ⟨s, dx, m, dy, M0, F0, r, z, f, mv, fin, L0, rfl, _⟩ := h
    rfl
  · obtain ⟨s, dx, m, dy, M0, F0, r, z, f, mv, fin, L0, rfl, hs, D, n64, q⟩ := h
    refine ⟨_, (pss_cons (ps_fld (pv 0) (pv 1) rfl)
      (pss_cons (ps_fld (pv 0) (pe_prop (pv 1) T.cl_Reader T.p_Reader_read (ok_Reader_read T) (hr.mono (by first | decide | exact Nat.le_refl _)) T.b_Reader_read .nil pass0 rfl) rfl)
      (pss_cons (ps_fld (pv 0) (pe_prop (pv 1) T.cl_Reader T.p_Reader_first (ok_Reader_first T) (hr.mono (by first | decide | exact Nat.le_refl _)) T.b_Reader_first .nil pass0 rfl) rfl)
      (pss_cons (ps_fld (pv 0) (pe_prop (pv 1) T.cl_Reader T.p_Reader_moves (ok_Reader_moves T) (hr.mono (by first | decide | exact Nat.le_refl _)) T.b_Reader_moves .nil pass0 rfl) rfl)
      (pss_cons (ps_fld (pv 0) (pe_prop (pv 1) T.cl_Reader T.p_Reader_finals (ok_Reader_finals T) (hr.mono (by first | decide | exact Nat.le_refl _)) T.b_Reader_finals .nil pass0 rfl) rfl)
      (pss_cons (ps_fld (pv 0) (pe_lst pa_nil) rfl)
      (pss_cons (ps_fld (pv 0) (pe_lst (pa_cons pe_int pa_nil)) rfl)
      (pss_one (ps_fld (pv 0) pe_bl rfl))))))))), ?_⟩
    have cl := T.cl_Session
    have ms : m ≠ s := fun e => by
      have h := D.ins
      rw [e, hs] at h
      obtain ⟨_, _, e3⟩ := HO.ins.inj (Option.some.inj h)
      have k := rfs_read (r := r) (z := z) (f := f) (M := M0) (F := F0)
      rw [← e3] at k
      cases k
    have noL : ∀ b ∈ ([] : List Addr), b ∈ L0 := fun b m => by cases m
    have put : ∀ {G : Hp} {fs fs' : List (Str × V)}, G s = some (.ins T.C_Session dx fs) → But s G (upd G s (.ins T.C_Session dx fs')) ∧ (upd G s (.ins T.C_Session dx fs')) s = some (.ins T.C_Session dx fs') := fun h => ⟨But.put h, upd_same⟩
    have mov : ∀ {G G' : Hp} {fs fs' : List (Str × V)}, G s = some (.ins T.C_Session dx fs) → G' s = some (.ins T.C_Session dx fs') → But s G G' → RA T.C_Reader L0 G m r z f mv fin dy M0 F0 → RA T.C_Reader L0 G' m r z f mv fin dy M0 F0 := fun h h' B A => A.buti h ms (ButI.but B h (by rw [h']; exact fun z => by cases z)) noL
    refine ⟨_, rfl, _, rfl, s, _, dx, _, rfl, hs, cl, T.no_Session__reader, by show 0 < 1000; decide, ?_⟩
    obtain ⟨B1, h1⟩ := put (fs' := putF "_reader" (.ref m) []) hs
    generalize upd H s (.ins T.C_Session dx (putF "_reader" (.ref m) [])) = G1 at B1 h1 ⊢
    have D1 := mov hs h1 B1 D
    refine ⟨_, rfl, m, dy, _, rfl, D1.ins, m, dy, _, _, rfl, D1.ins, rfs_read, _, rfl, s, _, dx, _, rfl, h1, cl, T.no_Session__alphabet, Nat.lt_of_le_of_lt (lenF (k := 0) (Nat.le_refl _)) (by decide), ?_⟩
    obtain ⟨b2, h2⟩ := put (fs' := putF "_alphabet" (.str r) (putF "_reader" (.ref m) [])) h1
    generalize upd G1 s (.ins T.C_Session dx (putF "_alphabet" (.str r) (putF "_reader" (.ref m) []))) = G2 at b2 h2 ⊢
    have D2 := mov h1 h2 b2 D1
    have B2 := B1.trans b2
    refine ⟨_, rfl, m, dy, _, rfl, D2.ins, m, dy, _, _, rfl, D2.ins, rfs_first, _, rfl, s, _, dx, _, rfl, h2, cl, T.no_Session__first, Nat.lt_of_le_of_lt (lenF (k := 1) (lenF (k := 0) (Nat.le_refl _))) (by decide), ?_⟩
    obtain ⟨b3, h3⟩ := put (fs' := putF "_first" (.str f) (putF "_alphabet" (.str r) (putF "_reader" (.ref m) []))) h2
    generalize upd G2 s (.ins T.C_Session dx (putF "_first" (.str f) (putF "_alphabet" (.str r) (putF "_reader" (.ref m) [])))) = G3 at b3 h3 ⊢
    have D3 := mov h2 h3 b3 D2
    have B3 := B2.trans b3
    clear D1 D2 b2 b3 h1 h2 B1 B2
    have kept3 : ∀ c, H c ≠ none → G3 c ≠ none := fun c hc e => hc (B3.free e fun z => by rw [z, h3] at e; cases e)
    -- the moves
    refine ⟨_, rfl, m, dy, _, rfl, D3.ins, m, dy, _, M0, mv, L0, rfl, D3.ins, rfs_moves, D3.gr, n64, fun M G4 s4 gn => ⟨_, rfl, s, _, dx, _, rfl, s4 _ _ h3, cl, T.no_Session__lines, Nat.lt_of_le_of_lt (lenF (k := 2) (lenF (k := 1) (lenF (k := 0) (Nat.le_refl _)))) (by decide), ?_⟩⟩
    have h3' := s4 _ _ h3
    obtain ⟨b5, h5⟩ := put (fs' := putF "_lines" (.ref M) (putF "_first" (.str f) (putF "_alphabet" (.str r) (putF "_reader" (.ref m) [])))) h3'
    generalize upd G4 s (.ins T.C_Session dx (putF "_lines" (.ref M) (putF "_first" (.str f) (putF "_alphabet" (.str r) (putF "_reader" (.ref m) []))))) = G5 at b5 h5 ⊢
    have g5 : ∀ L, (∀ c ∈ L, H c ≠ none) → GridL L G5 M mv := fun L hL => (gn.grid fun c mc => kept3 c (hL c mc)).ins b5 h3'
    have D5 := mov h3' h5 b5 (D3.same s4)
    have B5 := (B3.trans (But.same s4)).trans b5
    have kept5 : ∀ c, H c ≠ none → G5 c ≠ none := fun c hc e => hc (B5.free e fun z => by rw [z, h5] at e; cases e)
    clear gn D3 B3 s4 kept3 h3 h3' b5
    -- the finals
    refine ⟨_, rfl, m, dy, _, rfl, D5.ins, m, dy, _, F0, _, rfl, D5.ins, rfs_finals, D5.hf, fun F nF => ?_⟩
    have k6 := same_new (o := .lst (fin.map finV)) nF
    have hF6 : (upd G5 F (.lst (fin.map finV))) F = some (.lst (fin.map finV)) := upd_same
    generalize upd G5 F (.lst (fin.map finV)) = G6 at k6 hF6 ⊢
    have h6 := k6 _ _ h5
    refine ⟨_, rfl, s, _, dx, _, rfl, h6, cl, T.no_Session__lasts, Nat.lt_of_le_of_lt (lenF (k := 3) (lenF (k := 2) (lenF (k := 1) (lenF (k := 0) (Nat.le_refl _))))) (by decide), ?_⟩
    obtain ⟨b7, h7⟩ := put (fs' := putF "_lasts" (.ref F) (putF "_lines" (.ref M) (putF "_first" (.str f) (putF "_alphabet" (.str r) (putF "_reader" (.ref m) []))))) h6
    generalize upd G6 s (.ins T.C_Session dx (putF "_lasts" (.ref F) (putF "_lines" (.ref M) (putF "_first" (.str f) (putF "_alphabet" (.str r) (putF "_reader" (.ref m) [])))))) = G7 at b7 h7 ⊢
    have Fs : F ≠ s := fun e => by rw [e, h5] at nF; cases nF
    have hF7 := b7 _ _ Fs hF6
    have g7 : ∀ L, (∀ c ∈ L, H c ≠ none) → GridL L G7 M mv ∧ F ∉ L := fun L hL => ⟨((g5 L hL).same k6).ins b7 h6, fun mF => kept5 F (hL F mF) nF⟩
    have B7 := (B5.trans (But.same k6)).trans b7
    clear g5 D5 B5 kept5 k6 hF6 h6 b7 h5 nF
    have kept7 : ∀ c, H c ≠ none → G7 c ≠ none := fun c hc e => hc (B7.free e fun z => by rw [z, h7] at e; cases e)
    -- what is pushed
    refine ⟨by show 0 ≤ sizeLine; decide, fun P nP => ?_⟩
    have k8 := same_new (o := .lst []) nP
    have hP8 : (upd G7 P (.lst [])) P = some (.lst []) := upd_same
    generalize upd G7 P (.lst []) = G8 at k8 hP8 ⊢
    have h8 := k8 _ _ h7
    refine ⟨_, rfl, s, _, dx, _, rfl, h8, cl, T.no_Session__pushed, Nat.lt_of_le_of_lt (lenF (k := 4) (lenF (k := 3) (lenF (k := 2) (lenF (k := 1) (lenF (k := 0) (Nat.le_refl _)))))) (by decide), ?_⟩
    obtain ⟨b9, h9⟩ := put (fs' := putF "_pushed" (.ref P) (putF "_lasts" (.ref F) (putF "_lines" (.ref M) (putF "_first" (.str f) (putF "_alphabet" (.str r) (putF "_reader" (.ref m) [])))))) h8
    generalize upd G8 s (.ins T.C_Session dx (putF "_pushed" (.ref P) (putF "_lasts" (.ref F) (putF "_lines" (.ref M) (putF "_first" (.str f) (putF "_alphabet" (.str r) (putF "_reader" (.ref m) []))))))) = G9 at b9 h9 ⊢
    have Ps : P ≠ s := fun e => by rw [e, h7] at nP; cases nP
    have hP9 := b9 _ _ Ps hP8
    have hF9 := b9 _ _ Fs (k8 _ _ hF7)
    have nPH : H P = none := B7.free nP Ps
    have g9 : ∀ L, (∀ c ∈ L, H c ≠ none) → GridL (P :: L) G9 M mv ∧ F ∉ P :: L ∧ P ∉ L := fun L hL => ⟨((grid_more (g7 L hL).1 nP).same k8).ins b9 h8, apart_more nP hF7 (g7 L hL).2, fun mP => hL P mP nPH⟩
    have B9 := (B7.trans (But.same k8)).trans b9
    clear g7 B7 kept7 hP8 h8 b9 hF7 k8 h7 nP
    -- the states
    refine ⟨by show 1 ≤ sizeLine; decide, fun S nS => ?_⟩
    have k10 := same_new (o := .lst [.int 0]) nS
    have hS10 : (upd G9 S (.lst [.int 0])) S = some (.lst [.int 0]) := upd_same
    generalize upd G9 S (.lst [.int 0]) = G10 at k10 hS10 ⊢
    have h10 := k10 _ _ h9
    refine ⟨_, rfl, s, _, dx, _, rfl, h10, cl, T.no_Session__states, Nat.lt_of_le_of_lt (lenF (k := 5) (lenF (k := 4) (lenF (k := 3) (lenF (k := 2) (lenF (k := 1) (lenF (k := 0) (Nat.le_refl _))))))) (by decide), ?_⟩
    obtain ⟨b11, h11⟩ := put (fs' := putF "_states" (.ref S) (putF "_pushed" (.ref P) (putF "_lasts" (.ref F) (putF "_lines" (.ref M) (putF "_first" (.str f) (putF "_alphabet" (.str r) (putF "_reader" (.ref m) []))))))) h10
    generalize upd G10 s (.ins T.C_Session dx (putF "_states" (.ref S) (putF "_pushed" (.ref P) (putF "_lasts" (.ref F) (putF "_lines" (.ref M) (putF "_first" (.str f) (putF "_alphabet" (.str r) (putF "_reader" (.ref m) [])))))))) = G11 at b11 h11 ⊢
    have Ss : S ≠ s := fun e => by rw [e, h9] at nS; cases nS
    have SP : P ≠ S := fun e => by rw [← e, hP9] at nS; cases nS
    have nSH : H S = none := B9.free nS Ss
    have hS11 := b11 _ _ Ss hS10
    have hP11 := b11 _ _ Ps (k10 _ _ hP9)
    have hF11 := b11 _ _ Fs (k10 _ _ hF9)
    have sw : ∀ L : List Addr, ∀ b ∈ P :: S :: L, b ∈ S :: P :: L := fun L b m => by
      simp only [List.mem_cons] at m ⊢
      rcases m with m | m | m
      · exact .inr (.inl m)
      · exact .inl m
      · exact .inr (.inr m)
    have g11 : ∀ L, (∀ c ∈ L, H c ≠ none) → GridL (P :: S :: L) G11 M mv ∧ F ∉ P :: S :: L ∧ P ∉ L ∧ S ∉ L := fun L hL => ⟨(((grid_more (g9 L hL).1 nS).same k10).ins b11 h10).weak (sw L), fun mF => apart_more nS hF9 (g9 L hL).2.1 (sw L _ mF), (g9 L hL).2.2, fun mS => hL S mS nSH⟩
    have B11 := (B9.trans (But.same k10)).trans b11
    clear g9 B9 hS10 h10 b11 hF9 k10 h9 nS hP9
    refine ⟨_, rfl, s, _, dx, _, rfl, h11, cl, T.no_Session__closed, Nat.lt_of_le_of_lt (lenF (k := 6) (lenF (k := 5) (lenF (k := 4) (lenF (k := 3) (lenF (k := 2) (lenF (k := 1) (lenF (k := 0) (Nat.le_refl _)))))))) (by decide), ?_⟩
    obtain ⟨b12, h12⟩ := put (fs' := sfs m r f M F P S false) h11
    show Q V.non (upd G11 s (.ins T.C_Session dx (sfs m r f M F P S false)))
    generalize upd G11 s (.ins T.C_Session dx (sfs m r f M F P S false)) = G12 at b12 h12 ⊢
    refine q M F P S G12 (B11.trans b12) (fun L hL => ?_) nPH nSH
    obtain ⟨c1, c2, c3, c4⟩ := g11 L hL
    exact ⟨h12, c1.ins b12 h11, b12 _ _ Fs hF11, c2, ⟨[], b12 _ _ Ps hP11, .nil⟩, b12 _ _ Ss hS11, SP, c3, c4, .nil, fun z => by cases z⟩

/-- any number that is not negative -/
def sp_mix (_ : PySem.W.Frag) : Sp := fun vs H Q _ => ∃ n t : Int, vs = [.int n, .int t] ∧ ∀ r : Int, 0 ≤ r → Q (.int r) H
theorem ok_mix (T : Txt K mg base) : FnOk P w K mg base CX0 (0 + 1) T.f_mix T.fd_mix ["number", "tick"] (sp_mix K) := by
  refine T.F_mix.ok sc_mix (fun vs H Q E h => ?_) (fun cdv A outer s H vs Q E hr h => ?_)
  · obtain ⟨n, t, rfl, _⟩ := h
    rfl
  · obtain ⟨n, t, rfl, q⟩ := h
    refine ⟨_, (pss_cons (ps_set (i := 2) sc_mix.nd rfl (.inl rfl) (pe_op op_mod (pe_callTy call_int1 (by rfl) T.z_int (by decide +kernel) (pa_cons (pe_op op_add (pe_op op_add (pe_op op_mul (pe_op op_mod (pe_callTy call_int1 (by rfl) T.z_int (by decide +kernel) (pa_cons (pv 0) pa_nil)) pe_int) pe_int) (pe_op op_mul (pv 1) pe_int)) pe_int) pa_nil)) pe_int))
      (pss_cons (ps_set (i := 3) sc_mix.nd rfl (.inl rfl) (pe_op op_mod (pe_callTy call_int1 (by rfl) T.z_int (by decide +kernel) (pa_cons (pe_op op_add (pe_op op_add (pe_op op_mul (pv 2) (pv 2)) (pe_op op_fdiv (pv 2) pe_int)) (pe_op op_mul (pv 1) pe_int)) pa_nil)) pe_int))
      (pss_one (ps_ret (pe_op op_mod (pe_callTy call_int1 (by rfl) T.z_int (by decide +kernel) (pa_cons (pe_op op_add (pe_op op_add (pe_op op_mul (pv 3) (pv 3)) (pe_op op_fdiv (pv 3) pe_int)) (pv 2)) pa_nil)) pe_int))))), ?_⟩
    have hm : (0 : Int) < 2147483647 := by decide
    have hk : (0 : Int) < 1000000007 := by decide
    have hj : (0 : Int) < 2147483629 := by decide
    have b1 : 0 ≤ (n % 2147483647 * 48271 + t * 69621 + 7919) % 2147483647 := Int.emod_nonneg _ (by decide)
    have b2 : (n % 2147483647 * 48271 + t * 69621 + 7919) % 2147483647 < 2147483647 := Int.emod_lt_of_pos _ hm
    have w1 : -(2 ^ 64 : Int) < (n % 2147483647 * 48271 + t * 69621 + 7919) % 2147483647 ∧ (n % 2147483647 * 48271 + t * 69621 + 7919) % 2147483647 < 2 ^ 64 := ⟨by omega, by omega⟩
    refine ⟨.int n, rfl, .inl ⟨_, rfl, _, _, rfl, rfl, hm, _, _, rfl, rfl, .inr ⟨by decide, by decide⟩, .int t, rfl, _, _, rfl, rfl, .inr ⟨by decide, by decide⟩, _, _, rfl, rfl, _, _, rfl, rfl, .inl ⟨_, rfl, _, _, rfl, rfl, hm, ?_⟩⟩⟩
    have x1 : ∃ one, one = (n % 2147483647 * 48271 + t * 69621 + 7919) % 2147483647 := ⟨_, rfl⟩
    obtain ⟨one, e1⟩ := x1
    rw [← e1] at w1
    have b3 : 0 ≤ (one * one + one / 127 + t * 3571) % 1000000007 := Int.emod_nonneg _ (by decide)
    have b4 : (one * one + one / 127 + t * 3571) % 1000000007 < 1000000007 := Int.emod_lt_of_pos _ hk
    have w2 : -(2 ^ 64 : Int) < (one * one + one / 127 + t * 3571) % 1000000007 ∧ (one * one + one / 127 + t * 3571) % 1000000007 < 2 ^ 64 := ⟨by omega, by omega⟩
    subst e1
    refine ⟨_, rfl, _, rfl, _, _, rfl, rfl, .inl w1, _, rfl, _, _, rfl, rfl, ⟨by decide, by decide⟩, _, _, rfl, rfl, .int t, rfl, _, _, rfl, rfl, .inr ⟨by decide, by decide⟩, _, _, rfl, rfl, .inl ⟨_, rfl, _, _, rfl, rfl, hk, ?_⟩⟩
    exact ⟨_, rfl, _, rfl, _, _, rfl, rfl, .inl w2, _, rfl, _, _, rfl, rfl, ⟨by decide, by decide⟩, _, _, rfl, rfl, _, rfl, _, _, rfl, rfl, .inl ⟨_, rfl, _, _, rfl, rfl, hj, q _ (Int.emod_nonneg _ (by decide))⟩⟩

/-- a number d from 0 on, below many, or 0; the store moves on, all else stands -/
def sp_take (_ : PySem.W.Frag) : Sp := fun vs H Q _ => ∃ (a ca : Addr) (many : Int), vs = [.ref a, .int many] ∧ Sto H a ca ∧ many < 1073741824 ∧
  ∀ (d : Int) (H' : Hp), 0 ≤ d → (d < many ∨ d = 0) → But a H H' → Sto H' a ca → Q (.int d) H'
theorem ok_take (T : Txt K mg base) : FnOk P w K mg base CX0 (1 + 1) T.f_take T.fd_take ["store", "many"] (sp_take K) := by
  refine T.F_take.ok sc_take (fun vs H Q E h => ?_) (fun cdv A outer s H vs Q E hr h => ?_)
  · obtain ⟨a, ca, m, rfl, _⟩ := h
    rfl
  · obtain ⟨a, ca, m, rfl, S, hm, q⟩ := h
    refine ⟨_, (pss_cons (ps_set (i := 1) sc_take.nd rfl (.inl rfl) (pe_callB (call_max2 rfl) (by rfl) T.z_max (by decide +kernel) (pa_cons pe_int (pa_cons (pv 1) pa_nil))))
      (pss_cons (ps_asg (pe_op op_add (pe_ix ix_list (pv 0) pe_int (fun _ _ => rfl)) pe_int) (pg_sub (pv 0) pe_int set_list))
      (pss_cons (ps_set (i := 2) sc_take.nd rfl (.inl rfl) (pe_ix ix_list (pv 0) pe_int (fun _ _ => rfl)))
      (pss_cons (ps_if (PW.pt (pw_and (pt_cmpR op_lt (pe_ix ix_list (pv 0) pe_int (fun _ _ => rfl)) pe_int (nomark _)) (pw_and1 (pt_cmpR op_lt (pe_ix ix_list (pv 0) pe_int (fun _ _ => rfl)) (pe_callB call_len_seq (by rfl) T.z_len PySem.boot_len (pa_cons (pv 2) pa_nil)) (nomark _))))) (pss_cons (ps_set (i := 3) sc_take.nd rfl (.inl rfl) (pe_callTy call_int1 (by rfl) T.z_int (by decide +kernel) (pa_cons (pe_ix ix_list (pv 2) (pe_ix ix_list (pv 0) pe_int (fun _ _ => rfl)) (fun _ _ => rfl)) pa_nil)))
      (pss_cons (ps_asg (pe_op op_add (pe_ix ix_list (pv 0) pe_int (fun _ _ => rfl)) pe_int) (pg_sub (pv 0) pe_int set_list))
      (pss_cons (ps_if (pt_cmpR op_lt (pv 3) (pe_op op_pow pe_int pe_int) (nomark _)) (pss_one (ps_ret (pe_op op_mod (pe_callTy call_int1 (by rfl) T.z_int (by decide +kernel) (pa_cons (pe_call (ok_mix T) (hr.mono (by first | decide | exact Nat.le_refl _)) (by rfl) T.g_mix T.F_mix.kp T.b_mix .nil pass0 (pa_cons (pv 3) (pa_cons (pe_ix ix_list (pv 0) pe_int (fun _ _ => rfl)) pa_nil))) pa_nil)) (pv 1)))) pss_nil)
      (pss_one (ps_asg (pe_callTy call_int1 (by rfl) T.z_int (by decide +kernel) (pa_cons (pv 3) pa_nil)) (pg_sub (pv 0) pe_int set_list)))))) pss_nil)
      (pss_cons (ps_if (pt_cmpR op_lt (pe_ix ix_list (pv 0) pe_int (fun _ _ => rfl)) pe_int (nomark _)) (pss_one (ps_ret (pe_op op_mod (pe_callTy call_int1 (by rfl) T.z_int (by decide +kernel) (pa_cons (pe_call (ok_mix T) (hr.mono (by first | decide | exact Nat.le_refl _)) (by rfl) T.g_mix T.F_mix.kp T.b_mix .nil pass0 (pa_cons (pe_ix ix_list (pv 0) pe_int (fun _ _ => rfl)) (pa_cons (pe_ix ix_list (pv 0) pe_int (fun _ _ => rfl)) pa_nil))) pa_nil)) (pv 1)))) pss_nil)
      (pss_cons (ps_set (i := 4) sc_take.nd rfl (.inl rfl) (pe_op op_mod (pe_callTy call_int1 (by rfl) T.z_int (by decide +kernel) (pa_cons (pe_ix ix_list (pv 0) pe_int (fun _ _ => rfl)) pa_nil)) (pv 1)))
      (pss_cons (ps_asg (pe_op op_fdiv (pe_callTy call_int1 (by rfl) T.z_int (by decide +kernel) (pa_cons (pe_ix ix_list (pv 0) pe_int (fun _ _ => rfl)) pa_nil)) (pv 1)) (pg_sub (pv 0) pe_int set_list))
      (pss_one (ps_ret (pv 4)))))))))), ?_⟩
    obtain ⟨ns, i, b, t, sd, h1, h2, h3, h4⟩ := S
    -- many = max(1, many)
    refine ⟨.int m, rfl, _, _, rfl, ?_⟩
    have hM : ∃ M : Int, (if m > 1 then m else 1) = M ∧ 1 ≤ M ∧ M < 1073741824 ∧ ∀ d, d < M → 0 ≤ d → (d < m ∨ d = 0) := by
      by_cases g : m > 1
      · exact ⟨m, by rw [if_pos g], by omega, hm, fun d z _ => .inl z⟩
      · exact ⟨1, by rw [if_neg g], by omega, by decide, fun d z1 z2 => .inr (by omega)⟩
    obtain ⟨M, eM, hM1, hM2, hMd⟩ := hM
    rw [eM]
    have hM0 : 0 < M := by omega
    -- store[3] = store[3] + 1
    refine ⟨.ref a, rfl, _, _, _, _, rfl, rfl, .inl (.inl h1), rfl, _, _, rfl, rfl, .ref a, rfl, a, _, 3, 3, rfl, rfl, h1, rfl, ?_⟩
    -- cells = store[0]
    have h1' : (upd H a (.lst [.ref ca, .int i, .int b, .int (t + 1), .int sd])) a = some (.lst [.ref ca, .int i, .int b, .int (t + 1), .int sd]) := upd_same
    have h2' : (upd H a (.lst [.ref ca, .int i, .int b, .int (t + 1), .int sd])) ca = some (.lst (ns.map V.int)) := by
      rw [upd_ne h4]
      exact h2
    have hB : But a H (upd H a (.lst [.ref ca, .int i, .int b, .int (t + 1), .int sd])) := But.put h1
    have tail : ∀ (Ht : Hp) (bt : Int) (it tt : Int), Ht a = some (.lst [.ref ca, .int it, .int bt, .int tt, .int sd]) → Ht ca = some (.lst (ns.map V.int)) → 0 ≤ it → But a H Ht →
      ∀ r : Int, ∀ (d : Int) (H' : Hp), d = r % M → (H' = Ht ∨ ∃ b' : Int, H' = upd Ht a (.lst [.ref ca, .int it, .int b', .int tt, .int sd])) → Q (.int d) H' := by
      intro Ht bt it tt e1 e2 e3 eB r d H' ed eH
      subst ed
      have d0 : 0 ≤ r % M := Int.emod_nonneg _ (by omega)
      have d1 : r % M < M := Int.emod_lt_of_pos _ hM0
      rcases eH with rfl | ⟨b', rfl⟩
      · exact q _ _ d0 (hMd _ d1 d0) eB ⟨ns, it, bt, tt, sd, e1, e2, e3, h4⟩
      · refine q _ _ d0 (hMd _ d1 d0) (eB.trans (But.put e1)) ⟨ns, it, b', tt, sd, upd_same, ?_, e3, h4⟩
        rw [upd_ne h4]
        exact e2
    -- the tests
    refine ⟨.ref a, rfl, _, _, _, _, rfl, rfl, .inl (.inl h1'), rfl, .ref a, rfl, _, _, _, _, rfl, rfl, .inl (.inl h1'), rfl, _, _, rfl, rfl, _, rfl, ite2 (fun g1 => ?_) (fun g1 => ?_)⟩
    · refine ⟨.ref a, rfl, _, _, _, _, rfl, rfl, .inl (.inl h1'), rfl, .ref ca, rfl, _, _, rfl, .inl (.inl (.inl h2')), _, _, rfl, rfl, _, rfl, ite2 (fun g2 => ?_) (fun g2 => ?_)⟩
      · obtain ⟨n, hn⟩ := ints_at h3 (of_decide_eq_true g2)
        -- cell = int(cells[store[1]])
        refine ⟨.ref ca, rfl, .ref a, rfl, _, _, _, _, rfl, rfl, .inl (.inl h1'), rfl, _, _, _, _, rfl, rfl, .inl (.inl h2'), hn, .inl ⟨_, rfl, ?_⟩⟩
        -- store[1] = store[1] + 1
        refine ⟨.ref a, rfl, _, _, _, _, rfl, rfl, .inl (.inl h1'), rfl, _, _, rfl, rfl, .ref a, rfl, a, _, 1, 1, rfl, rfl, h1', rfl, ?_⟩
        have k1 : (upd (upd H a (.lst [.ref ca, .int i, .int b, .int (t + 1), .int sd])) a (.lst [.ref ca, .int (i + 1), .int b, .int (t + 1), .int sd])) a = some (.lst [.ref ca, .int (i + 1), .int b, .int (t + 1), .int sd]) := upd_same
        have k2 : (upd (upd H a (.lst [.ref ca, .int i, .int b, .int (t + 1), .int sd])) a (.lst [.ref ca, .int (i + 1), .int b, .int (t + 1), .int sd])) ca = some (.lst (ns.map V.int)) := by
          rw [upd_ne h4]
          exact h2'
        have kB := hB.trans (But.put (a := a) (H := (upd H a (.lst [.ref ca, .int i, .int b, .int (t + 1), .int sd]))) (o := (.lst [.ref ca, .int (i + 1), .int b, .int (t + 1), .int sd])) h1')
        have k3 : 0 ≤ i + 1 := by omega
        -- if cell < 10 ** 18
        refine ⟨_, rfl, _, _, rfl, rfl, ⟨by decide, by decide, by decide⟩, _, _, rfl, rfl, _, rfl, ite2 (fun g3 => ?_) (fun g3 => ?_)⟩
        · exact ⟨_, rfl, .ref a, rfl, _, _, _, _, rfl, rfl, .inl (.inl k1), rfl, _, _, rfl, fun r hr0 => .inl ⟨_, rfl, _, rfl, _, _, rfl, rfl, hM0, tail _ _ _ _ k1 k2 k3 kB r _ _ rfl (.inl rfl)⟩⟩
        · -- store[2] = int(cell)
          refine ⟨_, rfl, .inl ⟨_, rfl, .ref a, rfl, a, _, 2, 2, rfl, rfl, k1, rfl, ?_⟩⟩
          have m1 : (upd (upd (upd H a (.lst [.ref ca, .int i, .int b, .int (t + 1), .int sd])) a (.lst [.ref ca, .int (i + 1), .int b, .int (t + 1), .int sd])) a (.lst [.ref ca, .int (i + 1), .int n, .int (t + 1), .int sd])) a = some (.lst [.ref ca, .int (i + 1), .int n, .int (t + 1), .int sd]) := upd_same
          have m2 : (upd (upd (upd H a (.lst [.ref ca, .int i, .int b, .int (t + 1), .int sd])) a (.lst [.ref ca, .int (i + 1), .int b, .int (t + 1), .int sd])) a (.lst [.ref ca, .int (i + 1), .int n, .int (t + 1), .int sd])) ca = some (.lst (ns.map V.int)) := by
            rw [upd_ne h4]
            exact k2
          have mB := kB.trans (But.put (a := a) (H := (upd (upd H a (.lst [.ref ca, .int i, .int b, .int (t + 1), .int sd])) a (.lst [.ref ca, .int (i + 1), .int b, .int (t + 1), .int sd]))) (o := (.lst [.ref ca, .int (i + 1), .int n, .int (t + 1), .int sd])) k1)
          refine ⟨.ref a, rfl, _, _, _, _, rfl, rfl, .inl (.inl m1), rfl, _, _, rfl, rfl, _, rfl, ite2 (fun g4 => ?_) (fun g4 => ?_)⟩
          · exact ⟨.ref a, rfl, _, _, _, _, rfl, rfl, .inl (.inl m1), rfl, .ref a, rfl, _, _, _, _, rfl, rfl, .inl (.inl m1), rfl, _, _, rfl, fun r hr0 => .inl ⟨_, rfl, _, rfl, _, _, rfl, rfl, hM0, tail _ _ _ _ m1 m2 k3 mB r _ _ rfl (.inl rfl)⟩⟩
          · exact ⟨.ref a, rfl, _, _, _, _, rfl, rfl, .inl (.inl m1), rfl, .inl ⟨_, rfl, _, rfl, _, _, rfl, rfl, hM0, .ref a, rfl, _, _, _, _, rfl, rfl, .inl (.inl m1), rfl, .inl ⟨_, rfl, _, rfl, _, _, rfl, rfl, ⟨hM0, hM2⟩, .ref a, rfl, a, _, 2, 2, rfl, rfl, m1, rfl, _, rfl, tail _ _ _ _ m1 m2 k3 mB _ _ _ rfl (.inr ⟨_, rfl⟩)⟩⟩⟩
      · refine ⟨.ref a, rfl, _, _, _, _, rfl, rfl, .inl (.inl h1'), rfl, _, _, rfl, rfl, _, rfl, ite2 (fun g4 => ?_) (fun g4 => ?_)⟩
        · exact ⟨.ref a, rfl, _, _, _, _, rfl, rfl, .inl (.inl h1'), rfl, .ref a, rfl, _, _, _, _, rfl, rfl, .inl (.inl h1'), rfl, _, _, rfl, fun r hr0 => .inl ⟨_, rfl, _, rfl, _, _, rfl, rfl, hM0, tail _ _ _ _ h1' h2' h3 hB r _ _ rfl (.inl rfl)⟩⟩
        · exact ⟨.ref a, rfl, _, _, _, _, rfl, rfl, .inl (.inl h1'), rfl, .inl ⟨_, rfl, _, rfl, _, _, rfl, rfl, hM0, .ref a, rfl, _, _, _, _, rfl, rfl, .inl (.inl h1'), rfl, .inl ⟨_, rfl, _, rfl, _, _, rfl, rfl, ⟨hM0, hM2⟩, .ref a, rfl, a, _, 2, 2, rfl, rfl, h1', rfl, _, rfl, tail _ _ _ _ h1' h2' h3 hB _ _ _ rfl (.inr ⟨_, rfl⟩)⟩⟩⟩
    · refine ⟨.ref a, rfl, _, _, _, _, rfl, rfl, .inl (.inl h1'), rfl, _, _, rfl, rfl, _, rfl, ite2 (fun g4 => ?_) (fun g4 => ?_)⟩
      · exact ⟨.ref a, rfl, _, _, _, _, rfl, rfl, .inl (.inl h1'), rfl, .ref a, rfl, _, _, _, _, rfl, rfl, .inl (.inl h1'), rfl, _, _, rfl, fun r hr0 => .inl ⟨_, rfl, _, rfl, _, _, rfl, rfl, hM0, tail _ _ _ _ h1' h2' h3 hB r _ _ rfl (.inl rfl)⟩⟩
      · exact ⟨.ref a, rfl, _, _, _, _, rfl, rfl, .inl (.inl h1'), rfl, .inl ⟨_, rfl, _, rfl, _, _, rfl, rfl, hM0, .ref a, rfl, _, _, _, _, rfl, rfl, .inl (.inl h1'), rfl, .inl ⟨_, rfl, _, rfl, _, _, rfl, rfl, ⟨hM0, hM2⟩, .ref a, rfl, a, _, 2, 2, rfl, rfl, h1', rfl, _, rfl, tail _ _ _ _ h1' h2' h3 hB _ _ _ rfl (.inr ⟨_, rfl⟩)⟩⟩⟩

def sp_between (_ : PySem.W.Frag) : Sp := fun vs H Q _ => ∃ (a ca : Addr) (lo hi : Int), vs = [.ref a, .int lo, .int hi] ∧ Sto H a ca ∧ hi - lo < 1000000000 ∧
  ∀ (r : Int) (H' : Hp), lo ≤ r → (r ≤ hi ∨ r = lo) → But a H H' → Sto H' a ca → Q (.int r) H'
theorem ok_between (T : Txt K mg base) : FnOk P w K mg base CX0 (2 + 1) T.f_between T.fd_between ["store", "low", "high"] (sp_between K) := by
  refine T.F_between.ok sc_between (fun vs H Q E h => ?_) (fun cdv A outer s H vs Q E hr h => ?_)
  · obtain ⟨a, ca, lo, hi, rfl, _⟩ := h
    rfl
  · obtain ⟨a, ca, lo, hi, rfl, S, hd, q⟩ := h
    refine ⟨_, (pss_cons (ps_set (i := 3) sc_between.nd rfl (.inl rfl) (pe_call (ok_take T) (hr.mono (by first | decide | exact Nat.le_refl _)) (by rfl) T.g_take T.F_take.kp T.b_take .nil pass0 (pa_cons (pv 0) (pa_cons pe_int pa_nil))))
      (pss_cons (ps_if (PW.pt (pw_or (pt_cmpR op_eq (pv 3) pe_int (nomark _)) (pw_or1 (pt_cmpR op_lt (pv 2) (pv 1) (nomark _))))) (pss_one (ps_ret (pv 1))) pss_nil)
      (pss_cons (ps_if (pt_cmpR op_eq (pv 3) pe_int (nomark _)) (pss_one (ps_ret (pv 2))) pss_nil)
      (pss_one (ps_ret (pe_op op_add (pv 1) (pe_call (ok_take T) (hr.mono (by first | decide | exact Nat.le_refl _)) (by rfl) T.g_take T.F_take.kp T.b_take .nil pass0 (pa_cons (pv 0) (pa_cons (pe_op op_add (pe_op op_sub (pv 2) (pv 1)) pe_int) pa_nil))))))))), ?_⟩
    refine ⟨_, rfl, a, ca, 6, rfl, S, by decide, fun d H1 d0 d1 B1 S1 => ?_⟩
    refine ⟨_, rfl, rfl, _, rfl, ite2 (fun g1 => ?_) (fun g1 => ?_)⟩
    · exact ⟨_, rfl, q _ _ (Int.le_refl _) (.inr rfl) B1 S1⟩
    · refine ⟨_, rfl, _, rfl, _, _, rfl, rfl, _, rfl, ite2 (fun g2 => ?_) (fun g2 => ?_)⟩
      · exact ⟨_, rfl, q _ _ (Int.le_refl _) (.inr rfl) B1 S1⟩
      · have g2' : lo ≤ hi := by
          have := of_decide_eq_false (Bool.not_eq_true _ ▸ g2 : decide (hi < lo) = false)
          omega
        refine ⟨_, rfl, rfl, _, rfl, ite2 (fun g3 => ?_) (fun g3 => ?_)⟩
        · exact ⟨_, rfl, q _ _ g2' (.inl (Int.le_refl _)) B1 S1⟩
        · refine ⟨_, rfl, _, rfl, _, rfl, _, rfl, _, _, rfl, rfl, _, _, rfl, rfl, a, ca, _, rfl, S1, by show hi - lo + 1 < _; omega, fun e H2 e0 e1 B2 S2 => ?_⟩
          have e1' : e < hi - lo + 1 ∨ e = 0 := e1
          exact ⟨_, _, rfl, rfl, q _ _ (by omega) (by omega) (B1.trans B2) S2⟩

def sp_big (_ : PySem.W.Frag) : Sp := fun vs H Q _ => ∃ a ca : Addr, vs = [.ref a] ∧ Sto H a ca ∧ ∀ (n : Int) (H' : Hp), n.natAbs ≤ 10 ^ 60 → But a H H' → Sto H' a ca → Q (.int n) H'
theorem ok_big (T : Txt K mg base) : FnOk P w K mg base CX0 (2 + 1) T.f_big T.fd_big ["store"] (sp_big K) := by
  refine T.F_big.ok sc_big (fun vs H Q E h => ?_) (fun cdv A outer s H vs Q E hr h => ?_)
  · obtain ⟨a, ca, rfl, _⟩ := h
    rfl
  · obtain ⟨a, ca, rfl, S, q⟩ := h
    refine ⟨_, (pss_cons (ps_set (i := 1) sc_big.nd rfl (.inl rfl) (pe_call (ok_take T) (hr.mono (by first | decide | exact Nat.le_refl _)) (by rfl) T.g_take T.F_take.kp T.b_take .nil pass0 (pa_cons (pv 0) (pa_cons pe_int pa_nil))))
      (pss_cons (ps_if (pt_cmpR op_lt (pv 1) pe_int (nomark _)) (pss_one (ps_ret (pe_ix ix_list (pe_lst (pa_cons pe_int (pa_cons pe_int (pa_cons (pe_un un_neg pe_int) (pa_cons (pe_op op_pow pe_int pe_int) (pa_cons (pe_op op_sub (pe_op op_pow pe_int pe_int) pe_int) (pa_cons (pe_op op_sub pe_int (pe_op op_pow pe_int pe_int)) pa_nil))))))) (pv 1) (fun _ _ => rfl)))) pss_nil)
      (pss_cons (ps_set (i := 2) sc_big.nd rfl (.inl rfl) pe_int)
      (pss_cons (ps_for PassesOwn.never rfl (pi_range1 (by rfl) T.z_range (pa_cons (pe_op op_add pe_int (pe_call (ok_take T) (hr.mono (by first | decide | exact Nat.le_refl _)) (by rfl) T.g_take T.F_take.kp T.b_take .nil pass0 (pa_cons (pv 0) (pa_cons pe_int pa_nil)))) pa_nil)) (pg_name (i := 3) sc_big.nd rfl (.inl rfl)) (pss_one (ps_set (i := 2) sc_big.nd rfl (.inl rfl) (pe_op op_add (pe_op op_mulW (pv 2) pe_int) (pe_call (ok_take T) (hr.mono (by first | decide | exact Nat.le_refl _)) (by rfl) T.g_take T.F_take.kp T.b_take .nil pass0 (pa_cons (pv 0) (pa_cons pe_int pa_nil)))))))
      (pss_cons (ps_if (pt_cmpR op_eq (pv 1) pe_int (nomark _)) (pss_one (ps_ret (pe_op op_sub pe_int (pv 2)))) pss_nil)
      (pss_one (ps_ret (pv 2)))))))), ?_⟩
    refine ⟨_, rfl, a, ca, 9, rfl, S, by decide, fun d H1 d0 d1 B1 S1 => ?_⟩
    refine ⟨_, rfl, _, _, rfl, rfl, _, rfl, ite2 (fun g => ?_) (fun g => ?_)⟩
    · refine ⟨_, rfl, _, _, rfl, rfl, ⟨by decide, by decide, by decide⟩, ?_⟩
      refine ⟨_, _, rfl, rfl, ⟨by decide, by decide, by decide⟩, _, _, rfl, rfl, _, _, rfl, rfl, ⟨by decide, by decide, by decide⟩, _, _, rfl, rfl, ?_⟩
      refine ⟨by show 6 ≤ sizeLine; decide, fun p np => ?_⟩
      have d6 : d < 6 := of_decide_eq_true g
      obtain ⟨j, rfl⟩ := Int.eq_ofNat_of_zero_le d0
      have S2 := S1.new (o := .lst [.int 0, .int 1, .int (-1), .int (10 ^ 18), .int (10 ^ 60 - 1), .int (1 - 10 ^ 60)]) np
      have B2 : But a H (upd H1 p (.lst [.int 0, .int 1, .int (-1), .int (10 ^ 18), .int (10 ^ 60 - 1), .int (1 - 10 ^ 60)])) := B1.trans (But.new np)
      have six : ∀ j : Nat, j < 6 → ([.int 0, .int 1, .int (-1), .int (10 ^ 18), .int (10 ^ 60 - 1), .int (1 - 10 ^ 60)] : List V)[j]? = some (.int (([0, 1, -1, 10 ^ 18, 10 ^ 60 - 1, 1 - 10 ^ 60] : List Int).getD j 0)) ∧ (([0, 1, -1, 10 ^ 18, 10 ^ 60 - 1, 1 - 10 ^ 60] : List Int).getD j 0).natAbs ≤ 10 ^ 60 := fun j hj => by
        match j, hj with
        | 0, _ => exact ⟨rfl, by decide⟩
        | 1, _ => exact ⟨rfl, by decide⟩
        | 2, _ => exact ⟨rfl, by decide⟩
        | 3, _ => exact ⟨rfl, by decide⟩
        | 4, _ => exact ⟨rfl, by decide⟩
        | 5, _ => exact ⟨rfl, by decide⟩
      have sj := six j (by omega)
      exact ⟨_, rfl, p, _, _, _, rfl, rfl, .inl (.inl upd_same), atI_nat sj.1, q _ _ sj.2 B2 S2⟩
    · refine ⟨_, rfl, a, ca, 10, rfl, S1, by decide, fun e H2 e0 e1 B2 S2 => ?_⟩
      refine ⟨_, _, rfl, rfl, 1 + e, rfl, by omega, by omega, ?_⟩
      refine for_range (lo := 0) (n := (1 + e).toNat) (fun i σ H' => ∃ (n : Nat) (y : Option V), σ = [some (.ref a), some (.int d), some (.int (n : Int)), y] ∧ n < 10 ^ (6 * i) ∧ But a H H' ∧ Sto H' a ca) ⟨0, none, rfl, by decide, B1.trans B2, S2⟩ ?_ ?_
      · rintro i σ H' hi ⟨n, y, rfl, lt, B3, S3⟩
        have hi' : i < 10 := by
          have : i < (1 + e).toNat := hi
          omega
        have small : 10 ^ (6 * i) ≤ 10 ^ 60 := Nat.pow_le_pow_right (by decide) (by omega)
        refine ⟨_, rfl, _, _, rfl, rfl, wide_mul (a := 200) (b := 20) ?_ (by decide) (by decide) (by decide) (by decide), ?_⟩
        · rw [Int.natAbs_natCast]
          exact Nat.lt_of_lt_of_le lt (Nat.le_trans small (by decide +kernel))
        refine ⟨_, rfl, a, ca, 1000000, rfl, S3, by decide, fun r H4 r0 r1 B4 S4 => ?_⟩
        refine ⟨_, _, rfl, rfl, n * 1000000 + r.toNat, some (.int (0 + (i : Int))), ?_, ?_, B3.trans B4, S4⟩
        · have e1 : (n : Int) * 1000000 + r = ((n * 1000000 + r.toNat : Nat) : Int) := by omega
          rw [← e1]
          rfl
        · rw [show 6 * (i + 1) = 6 * i + 6 by omega, Nat.pow_add]
          have : r.toNat < 1000000 := by omega
          omega
      · rintro σ H' ⟨n, y, rfl, lt, B3, S3⟩
        have m60 : n ≤ 10 ^ 60 := by
          have : 10 ^ (6 * (1 + e).toNat) ≤ 10 ^ 60 := Nat.pow_le_pow_right (by decide) (by omega)
          omega
        refine ⟨_, rfl, rfl, _, rfl, ite2 (fun g2 => ?_) (fun g2 => ?_)⟩
        · refine ⟨_, rfl, _, _, rfl, rfl, q _ H' ?_ B3 S3⟩
          omega
        · exact ⟨_, rfl, q _ H' (by rw [Int.natAbs_natCast]; exact m60) B3 S3⟩

def NewV [Tabl] (H : Hp) (v : V) (H' : Hp) : Prop := ∀ c, H c ≠ none → Deep c 2 H' v
def sp_no_text [Tabl] (_ : PySem.W.Frag) : Sp := fun vs H Q _ => ∃ (a ca : Addr), vs = [.ref a] ∧ Sto H a ca ∧ ∀ (v : V) (H' : Hp), (∀ x : Str, v ≠ .str x) → NewV H v H' → But a H H' → Sto H' a ca → Q v H'
theorem ok_no_text (T : Txt K mg base) : FnOk P w K mg base CX0 (3 + 1) T.f_no_text T.fd_no_text ["store"] (sp_no_text K) := by
  refine T.F_no_text.ok sc_no_text (fun vs H Q E h => ?_) (fun cdv A outer s H vs Q E hr h => ?_)
  · obtain ⟨a, ca, rfl, _⟩ := h
    rfl
  · obtain ⟨a, ca, rfl, S, q⟩ := h
    refine ⟨_, (pss_cons (ps_set (i := 1) sc_no_text.nd rfl (.inl rfl) (pe_call (ok_take T) (hr.mono (by first | decide | exact Nat.le_refl _)) (by rfl) T.g_take T.F_take.kp T.b_take .nil pass0 (pa_cons (pv 0) (pa_cons pe_int pa_nil))))
      (pss_cons (ps_if (pt_cmpR op_lt (pv 1) pe_int (nomark _)) (pss_one (ps_ret (pe_ix ix_list (pe_lst (pa_cons pe_non (pa_cons pe_bl (pa_cons pe_bl (pa_cons pe_int (pa_cons pe_int (pa_cons (pe_lst pa_nil) (pa_cons (pe_tup pa_nil) (pa_cons (pe_lst (pa_cons pe_str pa_nil)) (pa_cons (pe_tup (pa_cons pe_str pa_nil)) (pa_cons (pe_lst (pa_cons (pe_lst (pa_cons pe_str pa_nil)) pa_nil)) pa_nil))))))))))) (pv 1) (fun _ _ => rfl)))) pss_nil)
      (pss_one (ps_ret (pe_call (ok_big T) (hr.mono (by first | decide | exact Nat.le_refl _)) (by rfl) T.g_big T.F_big.kp T.b_big .nil pass0 (pa_cons (pv 0) pa_nil)))))), ?_⟩
    refine ⟨_, rfl, a, ca, 12, rfl, S, by decide, fun d H1 d0 d1 B1 S1 => ?_⟩
    have d12 : d < 12 := by omega
    have held : ∀ c, H c ≠ none → H1 c ≠ none := fun c hc e => by
      by_cases ca' : c = a
      · exact S1.some.1 (by rw [← ca']; exact e)
      · exact hc (B1.free e ca')
    refine ⟨_, rfl, _, _, rfl, rfl, _, rfl, ite2 (fun g => ?_) (fun g => ?_)⟩
    · obtain ⟨j, rfl⟩ := Int.eq_ofNat_of_zero_le d0
      have j10 : j < 10 := by
        have := of_decide_eq_true g
        omega
      refine ⟨by decide, fun p1 n1 => ⟨by decide, fun p2 n2 => ⟨by decide, fun p3 n3 => ⟨by decide, fun p4 n4 => ⟨by decide, fun p5 n5 => ⟨by show 1 ≤ sizeLine; decide, fun p6 n6 => ⟨by show 10 ≤ sizeLine; decide, fun p7 n7 => ?_⟩⟩⟩⟩⟩⟩⟩
      have S2 := S1.new (o := .lst []) n1
      have S3 := S2.new (o := .tup []) n2
      have S4 := S3.new (o := .lst [.str (Str.ofString "a")]) n3
      have S5 := S4.new (o := .tup [.str (Str.ofString "a")]) n4
      have S6 := S5.new (o := .lst [.str (Str.ofString "a")]) n5
      have S7 := S6.new (o := .lst [.ref p5]) n6
      have k7 := same_new (o := .lst [.non, .bl true, .bl false, .int 0, .int 1, .ref p1, .ref p2, .ref p3, .ref p4, .ref p6]) n7
      have k6 := (same_new (o := .lst [.ref p5]) n6).trans k7
      have k5 := (same_new (o := .lst [.str (Str.ofString "a")]) n5).trans k6
      have k4 := (same_new (o := .tup [.str (Str.ofString "a")]) n4).trans k5
      have k3 := (same_new (o := .lst [.str (Str.ofString "a")]) n3).trans k4
      have k2 := (same_new (o := .tup []) n2).trans k3
      have k1 := (same_new (o := .lst []) n1).trans k2
      have e1 := k2 _ _ (upd_same (o := .lst []))
      have e2 := k3 _ _ (upd_same (o := .tup []))
      have e3 := k4 _ _ (upd_same (o := .lst [.str (Str.ofString "a")]))
      have e4 := k5 _ _ (upd_same (o := .tup [.str (Str.ofString "a")]))
      have e5 := k6 _ _ (upd_same (o := .lst [.str (Str.ofString "a")]))
      have e6 := k7 _ _ (upd_same (o := .lst [.ref p5]))
      have q2 := (same_new (o := .lst []) n1).free n2
      have q3 := ((same_new (o := .lst []) n1).trans (same_new (o := .tup []) n2)).free n3
      have q4 := (((same_new (o := .lst []) n1).trans (same_new (o := .tup []) n2)).trans (same_new (o := .lst [.str (Str.ofString "a")]) n3)).free n4
      have q5 := ((((same_new (o := .lst []) n1).trans (same_new (o := .tup []) n2)).trans (same_new (o := .lst [.str (Str.ofString "a")]) n3)).trans (same_new (o := .tup [.str (Str.ofString "a")]) n4)).free n5
      have q6 := (((((same_new (o := .lst []) n1).trans (same_new (o := .tup []) n2)).trans (same_new (o := .lst [.str (Str.ofString "a")]) n3)).trans (same_new (o := .tup [.str (Str.ofString "a")]) n4)).trans (same_new (o := .lst [.str (Str.ofString "a")]) n5)).free n6
      have ne : ∀ {p c : Addr}, H1 p = none → H c ≠ none → p ≠ c := fun n hc e => held _ hc (by rw [← e]; exact n)
      have sa : ∀ {n : Nat} {Hx : Hp} {c : Addr}, ∀ x ∈ [V.str (Str.ofString "a")], Deep c n Hx x := fun x m => by
        rw [List.mem_singleton.mp m]
        exact deep_str (by decide)
      have all : ∀ Hf : Hp, Hf p1 = some (.lst []) → Hf p2 = some (.tup []) → Hf p3 = some (.lst [.str (Str.ofString "a")]) → Hf p4 = some (.tup [.str (Str.ofString "a")]) → Hf p5 = some (.lst [.str (Str.ofString "a")]) → Hf p6 = some (.lst [.ref p5]) →
          ∀ x ∈ [V.non, .bl true, .bl false, .int 0, .int 1, .ref p1, .ref p2, .ref p3, .ref p4, .ref p6], ∀ c, H c ≠ none → Deep c 2 Hf x := by
        intro Hf e1 e2 e3 e4 e5 e6 x mx c hc
        revert x
        refine List.forall_mem_cons.mpr ⟨deep_non, List.forall_mem_cons.mpr ⟨deep_bl, List.forall_mem_cons.mpr ⟨deep_bl, List.forall_mem_cons.mpr ⟨deep_int (Nat.pow_pos (by decide)), List.forall_mem_cons.mpr ⟨deep_int (Nat.one_lt_two_pow (by decide)), ?_⟩⟩⟩⟩⟩
        refine List.forall_mem_cons.mpr ⟨deep_lst (ne n1 hc) e1 (by decide) (fun x m => absurd m List.not_mem_nil), List.forall_mem_cons.mpr ⟨deep_tup (ne q2 hc) e2 (by decide) (fun x m => absurd m List.not_mem_nil), ?_⟩⟩
        refine List.forall_mem_cons.mpr ⟨deep_lst (ne q3 hc) e3 (by decide) sa, List.forall_mem_cons.mpr ⟨deep_tup (ne q4 hc) e4 (by decide) sa, ?_⟩⟩
        refine List.forall_mem_cons.mpr ⟨deep_lst (ne q6 hc) e6 (by show 1 ≤ 4000000; decide) ?_, fun x m => absurd m List.not_mem_nil⟩
        intro x m
        rw [List.mem_singleton.mp m]
        exact deep_lst (ne q5 hc) e5 (by decide) sa
      have hj : j < [V.non, .bl true, .bl false, .int 0, .int 1, .ref p1, .ref p2, .ref p3, .ref p4, .ref p6].length := j10
      have ns : ∀ v ∈ [V.non, .bl true, .bl false, .int 0, .int 1, .ref p1, .ref p2, .ref p3, .ref p4, .ref p6], ∀ y : Str, v ≠ .str y := by
        intro v m y e
        subst e
        simp at m
      exact ⟨_, rfl, _, _, _, _, rfl, rfl, .inl (.inl upd_same), atI_nat (List.getElem?_eq_getElem hj), q _ _ (ns _ (List.getElem_mem hj)) (fun c hc => all _ e1 e2 e3 e4 e5 e6 _ (List.getElem_mem hj) c hc) (B1.trans (But.same k1)) (S7.new n7)⟩
    · refine ⟨_, rfl, a, ca, rfl, S1, fun n H2 hn B2 S2 => q _ _ (fun x e => by cases e) (fun _ _ => deep_int ?_) (B1.trans B2) S2⟩
      exact Nat.lt_of_le_of_lt hn (Nat.lt_of_lt_of_le (by decide : 10 ^ 60 < 2 ^ 200) (Nat.pow_le_pow_right (by decide) (by decide)))

/-- a sign of the text, an item of the list; the store moves on, all else stands -/
def sp_pick (_ : PySem.W.Frag) : Sp := fun vs H Q _ => ∃ (a ca : Addr), Sto H a ca ∧ ((∃ z : Str, vs = [.ref a, .str z] ∧ 0 < z.length ∧ z.length ≤ 4000000 ∧
    ∀ (c : Nat) (H' : Hp), c ∈ cs z → But a H H' → Sto H' a ca → Q (.str ⟨#[c]⟩) H') ∨
  (∃ (l : Addr) (xs : List V), vs = [.ref a, .ref l] ∧ l ≠ a ∧ H l = some (.lst xs) ∧ 0 < xs.length ∧ xs.length ≤ 4000000 ∧
    ∀ (x : V) (H' : Hp), x ∈ xs → But a H H' → Sto H' a ca → Q x H'))
theorem ok_pick (T : Txt K mg base) : FnOk P w K mg base CX0 (2 + 1) T.f_pick T.fd_pick ["store", "row"] (sp_pick K) := by
  refine T.F_pick.ok sc_pick (fun vs H Q E h => ?_) (fun cdv A outer s H vs Q E hr h => ?_)
  · obtain ⟨a, ca, _, ⟨z, rfl, _⟩ | ⟨l, xs, rfl, _⟩⟩ := h <;> rfl
  · obtain ⟨a, ca, S, h⟩ := h
    refine ⟨_, (pss_one (ps_ret (pe_ix ix_seq (pv 1) (pe_call (ok_take T) (hr.mono (by first | decide | exact Nat.le_refl _)) (by rfl) T.g_take T.F_take.kp T.b_take .nil pass0 (pa_cons (pv 0) (pa_cons (pe_callB call_len (by rfl) T.z_len PySem.boot_len (pa_cons (pv 1) pa_nil)) pa_nil))) (fun _ _ => rfl)))), ?_⟩
    rcases h with ⟨z, rfl, h0, h1, q⟩ | ⟨l, xs, rfl, hla, hl, h0, h1, q⟩
    · refine ⟨_, rfl, _, rfl, _, rfl, _, _, rfl, ⟨small_text h1, rfl⟩, a, ca, _, rfl, S, by omega, fun d H' d0 d1 hB S' => ?_⟩
      obtain ⟨j, rfl⟩ := Int.eq_ofNat_of_zero_le d0
      have hj : j < (cs z).length := by
        rw [cs_len]
        omega
      exact .inr (.inr ⟨z, _, (cs z)[j], rfl, rfl, small_text h1, atI_nat (List.getElem?_eq_getElem hj), q _ _ (List.getElem_mem hj) hB S'⟩)
    · refine ⟨_, rfl, _, rfl, _, rfl, _, _, rfl, .inl ⟨_, .inl (.inl hl), rfl⟩, a, ca, _, rfl, S, by omega, fun d H' d0 d1 hB S' => ?_⟩
      obtain ⟨j, rfl⟩ := Int.eq_ofNat_of_zero_le d0
      have hj : j < xs.length := by omega
      exact .inl ⟨l, xs, _, xs[j], rfl, rfl, .inl (.inl (hB _ _ hla hl)), atI_nat (List.getElem?_eq_getElem hj), q _ _ (List.getElem_mem hj) hB S'⟩

def sp_stranger (_ : PySem.W.Frag) : Sp := fun vs H Q _ => ∃ (a ca : Addr) (z : Str), vs = [.ref a, .str z] ∧ Sto H a ca ∧ z.length ≤ 4 ∧ ∀ (c : Nat) (H' : Hp), c ∉ cs z → But a H H' → Sto H' a ca → Q (.str ⟨#[c]⟩) H'
theorem ok_stranger (T : Txt K mg base) : FnOk P w K mg base CX0 (3 + 1) T.f_stranger T.fd_stranger ["store", "letters"] (sp_stranger K) := by
  refine T.F_stranger.ok sc_stranger (fun vs H Q E h => ?_) (fun cdv A outer s H vs Q E hr h => ?_)
  · obtain ⟨a, ca, z, rfl, _⟩ := h
    rfl
  · obtain ⟨a, ca, z, rfl, S, lz, q⟩ := h
    refine ⟨_, (pss_one (ps_ret (pe_call (ok_pick T) (hr.mono (by first | decide | exact Nat.le_refl _)) (by rfl) T.g_pick T.F_pick.kp T.b_pick .nil pass0 (pa_cons (pv 0) (pa_cons (pe_lc (own := [("x", 2)]) (g := gName 2) rfl sc_stranger.nd (pi_str pe_str) (blkOk_by (N := ["store", "letters", "x"]) (sc := defScope s_stranger) (by decide +kernel)) (fun _ _ _ _ _ => pg_name (i := 2) sc_stranger.nd rfl (Or.inl rfl)) (fun _ _ _ _ _ => (pts_one (pt_cmpR op_notIn_sign (pv 2) (pv 1) rfl))) (fun _ _ _ _ _ => (pv 2))) pa_nil))))), ?_⟩
    have nD' : ∀ {D : Addr}, H D = none → D ≠ a ∧ D ≠ ca := fun h => S.ne h
    refine ⟨_, rfl, abc, rfl, fun D nD => ?_⟩
    refine lc_it walk_str (fun n H' => H' D = some (.lst ((((cs abc).take n).filter (fun c => !decide (c ∈ cs z))).map fun c => V.str ⟨#[c]⟩)) ∧ Same H H' ∧ Sto H' a ca) ⟨by rw [upd_same, List.take_zero]; rfl, same_new nD, S.new nD⟩ (fun _ _ _ _ => trivial) ?_ ?_
    · rintro n v H4 H5 hn ⟨h1, h2, h3⟩ ⟨rfl, c, hc, rfl⟩
      have hc' : (cs abc)[n]? = some c := by
        show abc.cps.toList[n]? = some c
        rw [Array.getElem?_toList]
        exact hc
      refine ⟨rfl, _, rfl, _, rfl, c, z, rfl, rfl, _, rfl, ?_⟩
      by_cases m : c ∈ cs z
      · refine iteN (by rw [decide_eq_true (show c ∈ z.cps.toList from m)]; rfl) ⟨?_, h2, h3⟩
        rw [h1, List.take_add_one, hc', List.filter_append, List.map_append]
        simp [m]
      · refine iteC (by rw [decide_eq_false (show ¬ c ∈ z.cps.toList from m)]; rfl) ⟨_, rfl, _, h1, ?_, ?_, ?_, ?_⟩
        · rw [List.length_map]
          refine Nat.lt_of_le_of_lt (List.length_filter_le _ _) (Nat.lt_of_le_of_lt (m := 4000000) ?_ (by decide))
          rw [List.length_take]
          have : (cs abc).length = 26 := by decide +kernel
          omega
        · rw [upd_same, List.take_add_one, hc', List.filter_append, List.map_append]
          simp [m]
        · exact (Same.refl H).grown nD h2 h1
        · exact h3.put (nD' nD)
    · rintro H' ⟨h1, h2, h3⟩
      have e26 : List.take abc.cps.size (cs abc) = cs abc := List.take_of_length_le (Nat.le_of_eq (cs_len abc))
      rw [e26] at h1
      have more : 0 < (((cs abc).filter (fun c => !decide (c ∈ cs z))).map fun c => V.str ⟨#[c]⟩).length := by
        rw [List.length_map]
        refine Nat.pos_of_ne_zero fun e => ?_
        have nil := List.length_eq_zero_iff.mp e
        have l : (cs abc).length ≤ (cs z).length := nodup_len _ _ (abc_asc.imp fun h => Nat.ne_of_lt h) fun c m => by
          have := List.filter_eq_nil_iff.mp nil c m
          simpa using this
        have : (cs abc).length = 26 := by decide +kernel
        rw [cs_len z] at l
        omega
      refine ⟨a, ca, h3, .inr ⟨D, _, rfl, (nD' nD).1, h1, more, ?_, fun v H2 m B2 S2 => ?_⟩⟩
      · rw [List.length_map]
        refine Nat.le_trans (List.length_filter_le _ _) ?_
        have : (cs abc).length = 26 := by decide +kernel
        omega
      · obtain ⟨c, hc, rfl⟩ := List.mem_map.mp m
        refine q c H2 (fun mz => ?_) ((But.same h2).trans B2) S2
        have := (List.mem_filter.mp hc).2
        rw [decide_eq_true mz] at this
        cases this

theorem up_lowL : ∀ k : Fin 26, ∃ d ∈ cs (Txt.upper (⟨#[97 + k.val]⟩ : Str)), d < 97 := by decide +kernel
def sp_not_letter [Tabl] (_ : PySem.W.Frag) : Sp := fun vs H Q _ => ∃ (a ca : Addr) (z : Str), vs = [.ref a, .str z] ∧ Sto H a ca ∧ IsAlpha z ∧ ∀ (v : V) (H' : Hp), (¬ ∃ ch, ch ∈ cs z ∧ v = .str (⟨#[ch]⟩ : Str)) → NewV H v H' → But a H H' → Sto H' a ca → Q v H'
theorem ok_not_letter (T : Txt K mg base) : FnOk P w K mg base CX0 (4 + 1) T.f_not_letter T.fd_not_letter ["store", "letters"] (sp_not_letter K) := by
  refine T.F_not_letter.ok sc_not_letter (fun vs H Q E h => ?_) (fun cdv A outer st H vs Q E hr h => ?_)
  · obtain ⟨a, ca, z, rfl, _⟩ := h
    rfl
  · obtain ⟨a, ca, z, rfl, S, az, q⟩ := h
    refine ⟨_, (pss_cons (ps_set (i := 2) sc_not_letter.nd rfl (.inl rfl) (pe_call (ok_take T) (hr.mono (by first | decide | exact Nat.le_refl _)) (by rfl) T.g_take T.F_take.kp T.b_take .nil pass0 (pa_cons (pv 0) (pa_cons pe_int pa_nil))))
      (pss_cons (ps_if (pt_cmpR op_lt (pv 2) pe_int (nomark _)) (pss_one (ps_ret (pe_ix ix_list (pe_lst (pa_cons pe_str (pa_cons (pe_op op_add_str (pe_call (ok_pick T) (hr.mono (by first | decide | exact Nat.le_refl _)) (by rfl) T.g_pick T.F_pick.kp T.b_pick .nil pass0 (pa_cons (pv 0) (pa_cons (pv 1) pa_nil))) (pe_call (ok_pick T) (hr.mono (by first | decide | exact Nat.le_refl _)) (by rfl) T.g_pick T.F_pick.kp T.b_pick .nil pass0 (pa_cons (pv 0) (pa_cons (pv 1) pa_nil)))) pa_nil))) (pv 2) (fun _ _ => rfl)))) pss_nil)
      (pss_cons (ps_if (pt_cmpR op_eq (pv 2) pe_int (nomark _)) (pss_one (ps_ret (pe_lst (pa_cons (pe_call (ok_pick T) (hr.mono (by first | decide | exact Nat.le_refl _)) (by rfl) T.g_pick T.F_pick.kp T.b_pick .nil pass0 (pa_cons (pv 0) (pa_cons (pv 1) pa_nil))) pa_nil)))) pss_nil)
      (pss_cons (ps_if (pt_cmpR op_eq (pv 2) pe_int (nomark _)) (pss_one (ps_ret (pe_call (ok_stranger T) (hr.mono (by first | decide | exact Nat.le_refl _)) (by rfl) T.g_stranger T.F_stranger.kp T.b_stranger .nil pass0 (pa_cons (pv 0) (pa_cons (pv 1) pa_nil))))) pss_nil)
      (pss_cons (ps_if (pt_cmpR op_eq (pv 2) pe_int (nomark _)) (pss_one (ps_ret (pe_upper (pe_call (ok_pick T) (hr.mono (by first | decide | exact Nat.le_refl _)) (by rfl) T.g_pick T.F_pick.kp T.b_pick .nil pass0 (pa_cons (pv 0) (pa_cons (pv 1) pa_nil)))))) pss_nil)
      (pss_one (ps_ret (pe_call (ok_no_text T) (hr.mono (by first | decide | exact Nat.le_refl _)) (by rfl) T.g_no_text T.F_no_text.kp T.b_no_text .nil pass0 (pa_cons (pv 0) pa_nil))))))))), ?_⟩
    have z1 := az.len1
    have z4 := az.len4
    have zs := az.small
    have held : ∀ {G : Hp}, But a H G → Sto G a ca → ∀ c, H c ≠ none → G c ≠ none := fun B S c hc e => by
      by_cases ca' : c = a
      · exact S.some.1 (by rw [← ca']; exact e)
      · exact hc (B.free e ca')
    have len2 : ∀ {x : Str}, x.length ≠ 1 → ¬ ∃ ch, ch ∈ cs z ∧ V.str x = .str (⟨#[ch]⟩ : Str) := fun n ⟨ch, _, e⟩ => n (by rw [V.str.inj e]; rfl)
    have txt : ∀ {x : Str} {G : Hp}, x.length ≤ 1000 → NewV H (.str x) G := fun h _ _ => deep_text h
    refine ⟨_, rfl, a, ca, 6, rfl, S, by decide, fun d H1 d0 d1 B1 S1 => ?_⟩
    have d6 : d < 6 ∨ d = 0 := d1
    obtain ⟨d, rfl⟩ := Int.eq_ofNat_of_zero_le d0
    refine ⟨_, rfl, _, _, rfl, rfl, _, rfl, ite2 (fun g => ?_) (fun g => ?_)⟩
    · have d2 : d < 2 := by
        have := of_decide_eq_true g
        omega
      refine ⟨_, rfl, _, rfl, a, ca, S1, .inl ⟨z, rfl, z1, zs, fun c1 H2 m1 B2 S2 => ?_⟩⟩
      refine ⟨_, rfl, _, rfl, a, ca, S2, .inl ⟨z, rfl, z1, zs, fun c2 H3 m2 B3 S3 => ?_⟩⟩
      refine ⟨_, _, rfl, rfl, by show 1 + 1 ≤ sizeLine; decide, by show 2 ≤ sizeLine; decide, fun l nl => ?_⟩
      have hl : (upd H3 l (.lst [.str (Str.ofString ""), .str ((⟨#[c1]⟩ : Str) ++ ⟨#[c2]⟩)])) l = some (.lst [.str (Str.ofString ""), .str ((⟨#[c1]⟩ : Str) ++ ⟨#[c2]⟩)]) := upd_same
      have B4 := ((B1.trans B2).trans B3).trans (But.new (o := .lst [.str (Str.ofString ""), .str ((⟨#[c1]⟩ : Str) ++ ⟨#[c2]⟩)]) nl)
      have S4 := S3.new (o := .lst [.str (Str.ofString ""), .str ((⟨#[c1]⟩ : Str) ++ ⟨#[c2]⟩)]) nl
      rcases (by omega : d = 0 ∨ d = 1) with rfl | rfl
      · exact ⟨_, rfl, l, _, _, _, rfl, rfl, .inl (.inl hl), atI_nat (j := 0) rfl, q _ _ (len2 (by decide)) (txt (by show 0 ≤ 1000; decide)) B4 S4⟩
      · exact ⟨_, rfl, l, _, _, _, rfl, rfl, .inl (.inl hl), atI_nat (j := 1) rfl, q _ _ (len2 (by show 2 ≠ 1; decide)) (txt (by show 2 ≤ 1000; decide)) B4 S4⟩
    refine ⟨_, rfl, rfl, _, rfl, ite2 (fun _ => ?_) (fun _ => ?_)⟩
    · refine ⟨_, rfl, _, rfl, a, ca, S1, .inl ⟨z, rfl, z1, zs, fun c1 H2 m1 B2 S2 => ⟨by show 1 ≤ sizeLine; decide, fun l nl => ?_⟩⟩⟩
      refine q _ _ (fun ⟨_, _, e⟩ => by cases e) (fun c hc => deep_lst (fun e => held (B1.trans B2) S2 c hc (by rw [← e]; exact nl)) upd_same (by show 1 ≤ 4000000; decide) fun x mx => ?_) ((B1.trans B2).trans (But.new nl)) (S2.new nl)
      rw [List.mem_singleton.mp mx]
      exact deep_text (by show 1 ≤ 1000; decide)
    refine ⟨_, rfl, rfl, _, rfl, ite2 (fun _ => ?_) (fun _ => ?_)⟩
    · exact ⟨_, rfl, _, rfl, a, ca, z, rfl, S1, z4, fun c1 H2 nc B2 S2 => q _ _ (fun ⟨ch, mc, e⟩ => nc (by rw [sign1_inj e]; exact mc)) (txt (by show 1 ≤ 1000; decide)) (B1.trans B2) S2⟩
    refine ⟨_, rfl, rfl, _, rfl, ite2 (fun _ => ?_) (fun _ => ?_)⟩
    · refine ⟨_, rfl, _, rfl, a, ca, S1, .inl ⟨z, rfl, z1, zs, fun c1 H2 m1 B2 S2 => ⟨⟨_, rfl⟩, _, rfl, rfl, by show 1 ≤ 5592405; decide, ?_⟩⟩⟩
      have no : ¬ ∃ ch, ch ∈ cs z ∧ V.str (Txt.upper (⟨#[c1]⟩ : Str)) = .str (⟨#[ch]⟩ : Str) := fun ⟨ch, mc, e⟩ => by
        obtain ⟨l1, l2⟩ := az.low _ m1
        obtain ⟨d, md, ld⟩ := up_lowL ⟨c1 - 97, by omega⟩
        have e9 : 97 + (c1 - 97) = c1 := by omega
        rw [show (97 + (⟨c1 - 97, by omega⟩ : Fin 26).val) = c1 from e9, V.str.inj e, cs_one] at md
        rw [List.mem_singleton.mp md] at ld
        have := (az.low _ mc).1
        omega
      exact q _ _ no (txt (Nat.le_trans (up3 c1) (by decide))) (B1.trans B2) S2
    · refine ⟨_, rfl, a, ca, rfl, S1, fun v H2 nt nv B2 S2 => q v H2 (fun ⟨_, _, e⟩ => nt _ e) (fun c hc => nv c (held B1 S1 c hc)) (B1.trans B2) S2⟩

def sp_deed [Tabl] (CS : Addr) (K : PySem.W.Frag) : Sp := fun vs H Q _ => ∃ (a ca : Addr) (r z : Str) (w : Wc) (v : Ws) (L : List Addr), vs = [.ref a, .ref w.W] ∧ Sto H a ca ∧ WldA CS r z L H w v ∧ a ∈ L ∧
  ∀ (t : Addr) (d : Deed) (H' : Hp), But a H H' → Sto H' a ca → H t = none → H' t = some (.tup (deedV d)) → (∀ x, d = .push x → ∀ c, H c ≠ none → Deep c 2 H' x) → Q (.ref t) H'
theorem ok_deed (T : Txt K mg base) : FnOk P w K mg base CX0 (5 + 1) T.f_deed T.fd_deed ["store", "world"] (sp_deed T.C_Session K) := by
  refine T.F_deed.ok sc_deed (fun vs H Q E h => ?_) (fun cdv A0 outer st H vs Q E hr h => ?_)
  · obtain ⟨a, ca, r, z, w, v, L, rfl, _⟩ := h
    rfl
  · obtain ⟨a, ca, r, z, wc, v, L, rfl, S, hw, ma, q⟩ := h
    refine ⟨_, (pss_cons (ps_set (i := 2) sc_deed.nd rfl (.inr rfl) (pe_ix ix_list (pv 1) pe_int (fun _ _ => rfl)))
      (pss_cons (ps_set (i := 3) sc_deed.nd rfl (.inr rfl) pe_int)
      (C8.pss_cut (ps_if (pt_truth (pe_ix ix_list (pv 1) pe_int (fun _ _ => rfl)) (by intro _; rfl)) (pss_one (ps_set (i := 3) sc_deed.nd rfl (.inr rfl) (pe_ix ix_tup (pe_ix ix_list (pe_ix ix_list (pv 1) pe_int (fun _ _ => rfl)) (pe_un un_neg pe_int) (fun _ _ => rfl)) pe_int (fun _ _ => rfl)))) pss_nil)
      (pss_cons (ps_setLc (i := 4) (own := [("j", 6)]) (g := gName 6) rfl sc_deed.nd rfl rfl (sw_true rfl rfl rfl (by decide +kernel)) (pi_range1 (by rfl) T.z_range (pa_cons (pe_callB call_len_str (by rfl) T.z_len PySem.boot_len (pa_cons (pe_ix ix_tup (pv 2) pe_int (fun _ _ => rfl)) pa_nil)) pa_nil)) (blkOk_by (N := ["store", "world", "parts", "state", "good", "draw", "j"]) (sc := defScope s_deed) (by decide +kernel)) (fun _ _ _ _ _ => pg_name (i := 6) sc_deed.nd rfl (Or.inl rfl)) (fun _ _ _ _ _ => (pts_one (pt_cmpR op_notN (pe_ix (ix_listK K rfl) (pe_ix (ix_listK K rfl) (pe_ix (ix_tupK K rfl) (pv 2) pe_int (fun _ _ => rfl)) (pv 3) (fun _ _ => rfl)) (pv 6) (fun _ _ => rfl)) pe_non (nomark _)))) (fun _ _ _ _ _ => (pe_ix ix_str (pe_ix (ix_tupK K rfl) (pv 2) pe_int (fun _ _ => rfl)) (pv 6) (fun _ _ => rfl))))
      (pss_cons (ps_set (i := 5) sc_deed.nd rfl (.inl rfl) (pe_call (ok_take T) (hr.mono (by first | decide | exact Nat.le_refl _)) (by rfl) T.g_take T.F_take.kp T.b_take .nil pass0 (pa_cons (pv 0) (pa_cons pe_int pa_nil))))
      (pss_cons (ps_if (PW.pt (pw_and (pt_val (pe_ix ix_list (pv 1) pe_int (fun _ _ => rfl))) (pw_and1 (pt_cmpR op_lt (pv 5) pe_int (nomark _))))) (pss_one (ps_ret (pe_tup (pa_cons pe_str pa_nil)))) pss_nil)
      (pss_cons (ps_if (PW.pt (pw_and (pt_cmpR op_lt (pv 5) pe_int (nomark _)) (pw_and1 (pt_truth (pv 4) (by intro _; rfl))))) (pss_one (ps_ret (pe_tup (pa_cons pe_str (pa_cons (pe_call (ok_pick T) (hr.mono (by first | decide | exact Nat.le_refl _)) (by rfl) T.g_pick T.F_pick.kp T.b_pick .nil pass0 (pa_cons (pv 0) (pa_cons (pv 4) pa_nil))) pa_nil))))) pss_nil)
      (pss_cons (ps_if (pt_cmpR op_lt (pv 5) pe_int (nomark _)) (pss_one (ps_ret (pe_tup (pa_cons pe_str (pa_cons (pe_call (ok_pick T) (hr.mono (by first | decide | exact Nat.le_refl _)) (by rfl) T.g_pick T.F_pick.kp T.b_pick .nil pass0 (pa_cons (pv 0) (pa_cons (pe_ix ix_tup (pv 2) pe_int (fun _ _ => rfl)) pa_nil))) pa_nil))))) pss_nil)
      (pss_cons (ps_if (pt_cmpR op_eq (pv 5) pe_int (nomark _)) (pss_one (ps_ret (pe_tup (pa_cons pe_str (pa_cons (pe_call (ok_not_letter T) (hr.mono (by first | decide | exact Nat.le_refl _)) (by rfl) T.g_not_letter T.F_not_letter.kp T.b_not_letter .nil pass0 (pa_cons (pv 0) (pa_cons (pe_ix ix_tup (pv 2) pe_int (fun _ _ => rfl)) pa_nil))) pa_nil))))) pss_nil)
      (pss_cons (ps_if (pt_cmpR op_lt (pv 5) pe_int (nomark _)) (pss_one (ps_ret (pe_tup (pa_cons pe_str pa_nil)))) pss_nil)
      (pss_one (ps_ret (pe_tup (pa_cons pe_str pa_nil)))))))))))))), ?_⟩
    have g := hw.g
    have r1 := g.ar.len1
    have r4 := g.ar.len4
    have rs := g.ar.small
    have rl : (cs r).length = r.length := cs_len r
    have D := hw.rp
    have hs : v.q < wc.mv.length := (hw.pt.trk.lt g).1
    have held : ∀ {G : Hp}, But a H G → Sto G a ca → ∀ c, H c ≠ none → G c ≠ none := fun B S c hc e => by
      by_cases ca' : c = a
      · exact S.some.1 (by rw [← ca']; exact e)
      · exact hc (B.free e ca')
    have fresh : ∀ {G : Hp} {t : Addr}, But a H G → Sto G a ca → G t = none → H t = none := fun {G t} B S' e => by
      by_cases h : H t = none
      · exact h
      · exact (held B S' t h e).elim
    -- an end
    have fin : ∀ {G : Hp} (d : Deed), But a H G → Sto G a ca → (∀ x, d = .push x → ∀ c, H c ≠ none → Deep c 2 G x) → ∀ t, G t = none → Q (.ref t) (upd G t (.tup (deedV d))) := fun {G} d B S dn t nt => by
      have kt := same_new (o := .tup (deedV d)) nt
      exact q t d _ (B.trans (But.same kt)) (S.same kt) (fresh B S nt) upd_same fun x e c hc => (dn x e c hc).same kt
    refine ⟨_, rfl, wc.W, _, _, _, rfl, rfl, .inl (.inl hw.hW), atI_nat (j := 0) rfl, ?_⟩
    refine ⟨fun σ' G' => σ' = [some (.ref a), some (.ref wc.W), some (.ref wc.p), some (.int (v.q : Int)), none, none, none] ∧ G' = H, ?_, ?_⟩
    · refine ⟨_, rfl, wc.W, _, _, _, rfl, rfl, .inl (.inl hw.hW), atI_nat (j := 2) rfl, _, .inl ⟨_, .inl (.inl hw.hpa), rfl⟩, ?_⟩
      have lz := hw.en.len
      rcases hw.pt.last with ⟨e, eq⟩ | ⟨ts', c', x', e⟩
      · have z0 : v.zs = [] := List.length_eq_zero_iff.mp (by rw [lz, e]; rfl)
        refine iteN (by rw [z0]; rfl) ⟨?_, rfl⟩
        rw [eq]
        rfl
      · have zn : v.zs ≠ [] := fun h => by
          rw [h, e, List.length_append] at lz
          exact absurd lz (by show ¬ 0 = _ + 1; omega)
        obtain ⟨y, ey, t, rfl, ht⟩ := paired_get2 hw.en (i := ts'.length) (e := (c', x', v.q)) (by rw [e, List.getElem?_append_right (Nat.le_refl _), Nat.sub_self]; rfl)
        have ezl : v.zs.length = ts'.length + 1 := by rw [lz, e, List.length_append]; rfl
        have ezs : v.zs = v.zs.take ts'.length ++ [.ref t] := by
          have h := List.take_add_one (l := v.zs) (i := ts'.length)
          rw [ey, List.take_of_length_le (by omega)] at h
          exact h
        have al : atI v.zs (-1) = some (.ref t) := by
          rw [ezs]
          exact atI_last _ _
        refine iteC (by cases h : v.zs with | nil => exact absurd h zn | cons y yr => rfl) ?_
        have ht' : H t = some (.tup [.str (⟨#[c']⟩ : Str), .str x', .int (v.q : Int)]) := ht
        exact ⟨_, rfl, wc.W, _, _, _, rfl, rfl, .inl (.inl hw.hW), atI_nat (j := 2) rfl, _, rfl, v.pa, _, _, _, rfl, rfl, .inl (.inl hw.hpa), al, t, _, _, _, rfl, rfl, .inl (.inl ht'), rfl, rfl, rfl⟩
    rintro σ' G' ⟨rfl, eG⟩
    rw [eG]
    clear eG
    obtain ⟨nM, rows, hM, pr⟩ := D.gr
    obtain ⟨_, er, q0, xs, rfl, nq, hq, st0⟩ := paired_get2 pr (List.getElem?_eq_getElem hs)
    have lrow := g.row _ (List.getElem_mem hs)
    generalize wc.mv[v.q] = row at st0 lrow
    have lxs := st0.length
    refine ⟨_, rfl, _, _, _, _, rfl, rfl, .inl (.inl D.hp), rfl, r, rfl, small_text rs, _, rfl, Int.natCast_nonneg _, by omega, fun D0 nD => ?_⟩
    refine lc_range (lo := 0) (n := (r.length : Int).toNat) (fun j G' => Same H G' ∧ ∃ ys : List V, G' D0 = some (.lst ys) ∧ ys.length ≤ j ∧ ∀ y ∈ ys, ∃ c, y = .str (⟨#[c]⟩ : Str)) ⟨same_new nD, [], upd_same, Nat.le_refl _, fun j m => (nomatch m)⟩ ?_ ?_
    · rintro j G' hj ⟨s4, ys, hD, lj, gj⟩
      have hj' : j < xs.length := by have : j < r.length := hj; omega
      have hjr : j < (cs r).length := by have : j < r.length := hj; omega
      obtain ⟨m, hm, sm⟩ := paired_get st0 (List.getElem?_eq_getElem hj')
      have ex : atI xs (0 + (j : Int)) = some xs[j] := by rw [Int.zero_add]; exact atI_nat (List.getElem?_eq_getElem hj')
      have ec : atI (cs r) (0 + (j : Int)) = some (cs r)[j] := by rw [Int.zero_add]; exact atI_nat (List.getElem?_eq_getElem hjr)
      generalize xs[j] = xj at sm ex
      have D4 := D.same s4
      refine ⟨rfl, _, rfl, _, _, _, _, rfl, rfl, .inl (.inl D4.hp), rfl, _, rfl, _, rows, _, _, rfl, rfl, .inl (.inl (s4 _ _ hM)), atI_nat er, _, rfl, q0, xs, _, _, rfl, rfl, .inl (.inl (s4 _ _ hq)), ex, rfl, _, rfl, ?_⟩
      cases m with
      | none =>
        obtain rfl : xj = .non := sm
        exact iteN rfl ⟨s4, ys, hD, by omega, gj⟩
      | some mq =>
        obtain ⟨x, q⟩ := mq
        obtain ⟨t, rfl, ht⟩ := sm
        refine iteC rfl ⟨_, rfl, _, _, _, _, rfl, rfl, .inl (.inl D4.hp), rfl, _, rfl, r, _, _, rfl, rfl, small_text rs, ec, _, hD, ?_, (Same.refl H).grown nD s4 hD, _, upd_same, ?_, fun y my => ?_⟩
        · exact Nat.lt_of_le_of_lt (by omega : _ ≤ 1000) (by decide)
        · rw [List.length_append]
          show ys.length + 1 ≤ j + 1
          omega
        · rcases List.mem_append.mp my with z | z
          · exact gj y z
          · rw [List.mem_singleton.mp z]
            exact ⟨_, rfl⟩
    rintro G1 ⟨s4, ys, hD, lj, gj⟩
    have lj : ys.length ≤ r.length := lj
    have xD := S.ne nD
    have S4 := S.same s4
    refine ⟨_, rfl, a, ca, 24, rfl, S4, by decide, fun d G2 d0 d1 B2 S2 => ?_⟩
    have B4 := (But.same s4 : But a _ _).trans B2
    obtain ⟨aL, haL⟩ : ∃ xs, G1 a = some (.lst xs) := by
      obtain ⟨ns, i, b, t, s, h1, _⟩ := S4
      exact ⟨_, h1⟩
    have w2 := (hw.same s4).but B2 ma haL
    have hD2 := B2 _ _ xD.1 hD
    have c24 : d < 24 := by omega
    have a4 := hw.rp.hp
    have D2 := w2.rp
    have shut := fun (e : Deed) (h : ∀ x, e ≠ .push x) (t : Addr) (nt : _ = none) => fin e B4 S2 (fun x ee => (h x ee).elim) t nt
    dsimp only
    unfold tSeq tIfS
    refine gen_k (t := tAnd _ _) (P := fun Kc => Kc true G2 ∧ Kc false G2) ⟨?_, ?_⟩ (fun Kc kk => ?_)
    · exact iteC rfl ⟨by show 1 ≤ sizeLine; decide, fun t nt => shut .back (fun x e => by cases e) t nt⟩
    rotate_left
    · refine ⟨_, rfl, wc.W, _, _, _, rfl, rfl, .inl (.inl w2.hW), atI_nat (j := 3) rfl, _, rfl, ite2 (fun _ => ⟨_, rfl, _, _, rfl, rfl, _, rfl, ?_⟩) (fun _ => kk.2)⟩
      by_cases h : (d : Int) < 12
      · rw [decide_eq_true h]
        exact kk.1
      · rw [decide_eq_false h]
        exact kk.2
    refine iteN rfl ?_
    unfold tNext
    dsimp only
    refine gen_k (t := tAnd _ _) (P := fun Kc => (ys ≠ [] → Kc true G2) ∧ Kc false G2) ⟨?_, ?_⟩ (fun Kc kk => ?_)
    · intro yn
      refine iteC rfl ⟨_, rfl, _, rfl, a, ca, S2, .inr ⟨D0, _, rfl, xD.1, hD2, List.length_pos_iff.mpr yn, by omega, fun y G3 my B3 S3 => ⟨by show 2 ≤ sizeLine; decide, fun t nt => ?_⟩⟩⟩
      obtain ⟨c, rfl⟩ := gj y my
      exact fin (.push _) (B4.trans B3) S3 (fun x e c hc => by cases e; exact deep_text (by show 1 ≤ 1000; decide)) t nt
    rotate_left
    · refine ⟨_, rfl, _, _, rfl, rfl, _, rfl, ite2 (fun _ => ⟨_, rfl, _, .inl ⟨_, .inl (.inl hD2), rfl⟩, ?_⟩) (fun _ => kk.2)⟩
      by_cases h : ys = []
      · subst h
        exact kk.2
      · cases ys with
        | nil => exact absurd rfl h
        | cons y yr => exact kk.1 h
    refine iteN rfl ?_
    refine ⟨_, rfl, _, _, rfl, rfl, _, rfl, ite2 (fun _ => ?_) (fun _ => ?_)⟩
    · refine ⟨_, rfl, _, rfl, _, _, _, _, rfl, rfl, .inl (.inl D2.hp), rfl, a, ca, S2, .inl ⟨r, rfl, r1, rs, fun c G3 my B3 S3 => ⟨by show 2 ≤ sizeLine; decide, fun t nt => ?_⟩⟩⟩
      exact fin (.push _) (B4.trans B3) S3 (fun x e c hc => by cases e; exact deep_text (by show 1 ≤ 1000; decide)) t nt
    refine ⟨_, rfl, rfl, _, rfl, ite2 (fun _ => ?_) (fun _ => ?_)⟩
    · refine ⟨_, rfl, _, rfl, _, _, _, _, rfl, rfl, .inl (.inl D2.hp), rfl, a, ca, r, rfl, S2, g.ar, fun x G3 _ nv B3 S3 => ⟨by show 2 ≤ sizeLine; decide, fun t nt => ?_⟩⟩
      exact fin (.push _) (B4.trans B3) S3 (fun x e c hc => by cases e; exact nv c (held B4 S2 c hc)) t nt
    refine ⟨_, rfl, _, _, rfl, rfl, _, rfl, ite2 (fun _ => ?_) (fun _ => ?_)⟩
    · exact ⟨by show 1 ≤ sizeLine; decide, fun t nt => shut .close (fun x e => by cases e) t nt⟩
    · exact ⟨by show 1 ≤ sizeLine; decide, fun t nt => shut .back (fun x e => by cases e) t nt⟩

/-- an alphabet; the store moves on, all else stands -/
def sp_letters (_ : PySem.W.Frag) : Sp := fun vs H Q _ => ∃ (a ca : Addr) (n : Int), vs = [.ref a, .int n] ∧ Sto H a ca ∧
  ∀ (z : Str) (H' : Hp), IsAlpha z → But a H H' → Sto H' a ca → Q (.str z) H'
theorem ok_letters (T : Txt K mg base) : FnOk P w K mg base CX0 (2 + 1) T.f_letters T.fd_letters ["store", "limit"] (sp_letters K) := by
  refine T.F_letters.ok sc_letters (fun vs H Q E h => ?_) (fun cdv A outer s H vs Q E hr h => ?_)
  · obtain ⟨a, ca, n, rfl, _⟩ := h
    rfl
  · obtain ⟨a, ca, n, rfl, S, q⟩ := h
    refine ⟨_, (pss_cons (ps_set (i := 2) sc_letters.nd rfl (.inl rfl) (pe_op op_add pe_int (pe_call (ok_take T) (hr.mono (by first | decide | exact Nat.le_refl _)) (by rfl) T.g_take T.F_take.kp T.b_take .nil pass0 (pa_cons (pv 0) (pa_cons (pe_callB (call_max2 rfl) (by rfl) T.z_max (by decide +kernel) (pa_cons pe_int (pa_cons (pe_callB (call_min2 rfl) (by rfl) T.z_min (by decide +kernel) (pa_cons pe_int (pa_cons (pv 1) pa_nil))) pa_nil))) pa_nil)))))
      (pss_cons (ps_set (i := 3) sc_letters.nd rfl (.inl rfl) pe_str)
      (pss_cons (ps_set (i := 4) sc_letters.nd rfl (.inl rfl) (pe_call (ok_take T) (hr.mono (by first | decide | exact Nat.le_refl _)) (by rfl) T.g_take T.F_take.kp T.b_take .nil pass0 (pa_cons (pv 0) (pa_cons pe_int pa_nil))))
      (pss_cons (ps_if (pt_cmpR op_eq (pv 4) pe_int (nomark _)) (pss_one (ps_ret (pe_slice sl_str (pv 3) po_none (po_some (pv 2))))) pss_nil)
      (pss_cons (ps_if (pt_cmpR op_eq (pv 4) pe_int (nomark _)) (pss_one (ps_ret (pe_slice sl_str (pv 3) (po_some (pe_op op_sub pe_int (pv 2))) po_none))) pss_nil)
      (pss_cons (ps_set (i := 5) sc_letters.nd rfl (.inl rfl) (pe_un un_neg pe_int))
      (pss_cons (ps_set (i := 6) sc_letters.nd rfl (.inl rfl) pe_str)
      (pss_cons (ps_for PassesOwn.never rfl (pi_range1 (by rfl) T.z_range (pa_cons (pv 2) pa_nil)) (pg_name (i := 7) sc_letters.nd rfl (.inl rfl)) (pss_cons (ps_set (i := 5) sc_letters.nd rfl (.inl rfl) (pe_op op_add (pe_op op_add (pv 5) pe_int) (pe_call (ok_take T) (hr.mono (by first | decide | exact Nat.le_refl _)) (by rfl) T.g_take T.F_take.kp T.b_take .nil pass0 (pa_cons (pv 0) (pa_cons (pe_op op_sub (pe_op op_add (pe_op op_sub pe_int (pv 2)) (pv 7)) (pv 5)) pa_nil)))))
      (pss_one (ps_set (i := 6) sc_letters.nd rfl (.inl rfl) (pe_op op_add_str (pv 6) (pe_ix ix_str (pv 3) (pv 5) (fun _ _ => rfl)))))))
      (pss_one (ps_ret (pv 6))))))))))), ?_⟩
    have hm : (if (if n < 4 then n else 4) > 1 then (if n < 4 then n else 4) else 1) ≤ 4 ∧ 1 ≤ (if (if n < 4 then n else 4) > 1 then (if n < 4 then n else 4) else 1) := by
      split <;> split <;> omega
    refine ⟨_, rfl, _, rfl, _, _, rfl, _, _, rfl, a, ca, _, rfl, S, Int.lt_of_le_of_lt hm.1 (by decide), fun d H1 d0 d1 B1 S1 => ?_⟩
    have d4 : d < 4 := by
      have e1 : d < (if (if n < 4 then n else 4) > 1 then (if n < 4 then n else 4) else 1) ∨ d = 0 := d1
      omega
    obtain ⟨j, rfl⟩ := Int.eq_ofNat_of_zero_le d0
    have hj : j < 4 := by omega
    refine ⟨_, _, rfl, rfl, _, rfl, a, ca, 4, rfl, S1, by decide, fun e H2 e0 e1 B2 S2 => ?_⟩
    have B12 := B1.trans B2
    refine ⟨_, rfl, rfl, _, rfl, ite2 (fun g1 => ?_) (fun g1 => ?_)⟩
    · -- every[:size]
      refine ⟨_, rfl, _, rfl, _, rfl, abc, rfl, small_text (by rw [len_abc]; decide), ?_⟩
      have e : (1 : Int) + (j : Int) = ((1 + j : Nat) : Int) := by omega
      show Q (.str (cutS abc none (some (1 + (j : Int))))) H2
      rw [e]
      exact q _ _ (abc_upto (by omega) (by omega)) B12 S2
    · refine ⟨_, rfl, rfl, _, rfl, ite2 (fun g2 => ?_) (fun g2 => ?_)⟩
      · -- every[26 - size:]
        refine ⟨_, rfl, _, rfl, _, _, rfl, rfl, _, rfl, abc, rfl, small_text (by rw [len_abc]; decide), ?_⟩
        have e : (26 : Int) - (1 + (j : Int)) = ((25 - j : Nat) : Int) := by omega
        show Q (.str (cutS abc (some (26 - (1 + (j : Int)))) none)) H2
        rw [e]
        exact q _ _ (abc_from (by omega) (by omega)) B12 S2
      · refine ⟨_, rfl, _, rfl, _, rfl, by show -(2 ^ 62 : Int) ≤ 1 + (j : Int); omega, by show 1 + (j : Int) < 2 ^ 62; omega, ?_⟩
        have ej : ((1 : Int) + (j : Int)).toNat = j + 1 := by omega
        refine for_range (lo := 0) (n := ((1 : Int) + (j : Int)).toNat) (fun i σ H' => ∃ (at_ : Int) (v : Str) (y : Option V), σ = [some (.ref a), some (.int n), some (.int (1 + (j : Int))), some (.str abc), some (.int e), some (.int at_), some (.str v), y] ∧
          But a H H' ∧ Sto H' a ca ∧ -1 ≤ at_ ∧ at_ ≤ 25 - (1 + (j : Int)) + (i : Int) ∧ v.length = i ∧ (cs v).Pairwise (· < ·) ∧ ∀ c ∈ cs v, 97 ≤ c ∧ (c : Int) ≤ 97 + at_) ?_ ?_ ?_
        · refine ⟨-1, Str.ofString "", none, rfl, B12, S2, by decide, by omega, by decide +kernel, ?_, fun c m => ?_⟩
          · rw [cs_empty]
            exact .nil
          · rw [cs_empty] at m
            exact absurd m List.not_mem_nil
        · rintro i σ H3 hi ⟨at_, v, y, rfl, B3, S3, a0, a1, hl, hp, hc⟩
          have hi' : i < j + 1 := by rw [← ej]; exact hi
          refine ⟨_, rfl, _, _, rfl, rfl, _, rfl, _, rfl, _, _, rfl, rfl, _, rfl, _, _, rfl, rfl, _, rfl, _, _, rfl, rfl, a, ca, _, rfl, S3, by show 26 - (1 + (j : Int)) + (0 + (i : Int)) - at_ < 1073741824; omega, fun f H4 f0 f1 B4 S4 => ?_⟩
          have f1' : f < 26 - (1 + (j : Int)) + (0 + (i : Int)) - at_ ∨ f = 0 := f1
          have k0 : 0 ≤ at_ + 1 + f := by omega
          have k1 : at_ + 1 + f ≤ 25 - (1 + (j : Int)) + ((i : Int) + 1) := by omega
          obtain ⟨g, eg⟩ := Int.eq_ofNat_of_zero_le k0
          have hg : g < 26 := by omega
          have hat : atI (cs abc) (at_ + 1 + f) = some (97 + g) := by
            rw [eg, cs_abc]
            refine atI_nat ?_
            rw [List.getElem?_range' hg]
            simp
          refine ⟨_, _, rfl, rfl, _, rfl, _, rfl, _, rfl, abc, _, _, rfl, rfl, small_text (by rw [len_abc]; decide), hat, _, _, rfl, rfl, ?_, ?_⟩
          · refine small_text ?_
            show v.length + 1 ≤ 4000000
            omega
          · refine ⟨at_ + 1 + f, v ++ ⟨#[97 + g]⟩, _, rfl, B3.trans B4, S4, by omega, by omega, ?_, ?_, fun c m => ?_⟩
            · rw [length_app, hl]
              rfl
            · rw [cs_app, cs_one]
              refine List.pairwise_append.mpr ⟨hp, List.pairwise_singleton _ _, fun x hx y hy => ?_⟩
              rw [List.mem_singleton.mp hy]
              have := hc x hx
              omega
            · rw [cs_app, cs_one] at m
              rcases List.mem_append.mp m with m | m
              · have := hc c m
                omega
              · rw [List.mem_singleton.mp m]
                omega
        · rintro σ H3 ⟨at_, v, y, rfl, B3, S3, a0, a1, hl, hp, hc⟩
          refine ⟨_, rfl, q v H3 ⟨hp, fun c m => ?_, ?_, ?_⟩ B3 S3⟩
          · have := hc c m
            omega
          · omega
          · omega

/-- a text of letters of z, of at most n signs -/
def sp_word (_ : PySem.W.Frag) : Sp := fun vs H Q _ => ∃ (a ca : Addr) (z : Str) (n : Int), vs = [.ref a, .str z, .int n] ∧ Sto H a ca ∧ 0 < z.length ∧ z.length ≤ 4000000 ∧ n ≤ 100000 ∧
  ∀ (v : Str) (H' : Hp), Over z v → (v.length : Int) ≤ (if n < 0 then 0 else n) → But a H H' → Sto H' a ca → Q (.str v) H'
theorem ok_word (T : Txt K mg base) : FnOk P w K mg base CX0 (3 + 1) T.f_word T.fd_word ["store", "letters", "limit"] (sp_word K) := by
  refine T.F_word.ok sc_word (fun vs H Q E h => ?_) (fun cdv A outer s H vs Q E hr h => ?_)
  · obtain ⟨a, ca, z, n, rfl, _⟩ := h
    rfl
  · obtain ⟨a, ca, z, n, rfl, S, hz0, hz1, hn, q⟩ := h
    refine ⟨_, (pss_cons (ps_set (i := 3) sc_word.nd rfl (.inl rfl) (pe_call (ok_take T) (hr.mono (by first | decide | exact Nat.le_refl _)) (by rfl) T.g_take T.F_take.kp T.b_take .nil pass0 (pa_cons (pv 0) (pa_cons pe_int pa_nil))))
      (pss_cons (ps_if (PW.pt (pw_or (pt_cmpR op_eq (pv 3) pe_int (nomark _)) (pw_or1 (pt_cmpR op_lt (pv 2) pe_int (nomark _))))) (pss_one (ps_ret pe_str)) pss_nil)
      (pss_cons (ps_if (pt_cmpR op_eq (pv 3) pe_int (nomark _)) (pss_one (ps_ret (pe_op op_rep_str (pe_call (ok_pick T) (hr.mono (by first | decide | exact Nat.le_refl _)) (by rfl) T.g_pick T.F_pick.kp T.b_pick .nil pass0 (pa_cons (pv 0) (pa_cons (pv 1) pa_nil))) (pv 2)))) pss_nil)
      (pss_cons (ps_set (i := 4) sc_word.nd rfl (.inl rfl) (pv 2))
      (pss_cons (ps_if (pt_cmpR op_gt (pv 3) pe_int (nomark _)) (pss_one (ps_set (i := 4) sc_word.nd rfl (.inl rfl) (pe_call (ok_take T) (hr.mono (by first | decide | exact Nat.le_refl _)) (by rfl) T.g_take T.F_take.kp T.b_take .nil pass0 (pa_cons (pv 0) (pa_cons (pe_op op_add (pv 2) pe_int) pa_nil))))) pss_nil)
      (pss_cons (ps_if (pt_cmpR op_eq (pv 3) pe_int (nomark _)) (pss_one (ps_ret (pe_op op_rep_str (pe_call (ok_pick T) (hr.mono (by first | decide | exact Nat.le_refl _)) (by rfl) T.g_pick T.F_pick.kp T.b_pick .nil pass0 (pa_cons (pv 0) (pa_cons (pv 1) pa_nil))) (pv 4)))) pss_nil)
      (pss_one (ps_ret (pe_join pe_str (pe_lc (own := [("k", 5)]) (g := gName 5) rfl sc_word.nd (pi_range1 (by rfl) T.z_range (pa_cons (pv 4) pa_nil)) (blkOk_by (N := ["store", "letters", "limit", "draw", "size", "k"]) (sc := defScope s_word) (by decide +kernel)) (fun _ _ _ _ _ => pg_name (i := 5) sc_word.nd rfl (Or.inl rfl)) (fun _ _ _ _ _ => pts_nil) (fun _ _ _ _ _ => (pe_call (ok_pick T) (hr.mono (by first | decide | exact Nat.le_refl _)) (by rfl) T.g_pick T.F_pick.kp T.b_pick .nil pass0 (pa_cons (pv 0) (pa_cons (pv 1) pa_nil)))))))))))))), ?_⟩
    refine ⟨_, rfl, a, ca, 9, rfl, S, by decide, fun d H1 d0 d1 B1 S1 => ?_⟩
    have h0 : ((0 : Nat) : Int) ≤ (if n < 0 then 0 else n) := by split <;> omega
    refine ⟨_, rfl, rfl, _, rfl, ite2 (fun g1 => ?_) (fun g1 => ?_)⟩
    · exact q _ _ Over.empty h0 B1 S1
    · refine ⟨_, rfl, _, _, rfl, rfl, _, rfl, ite2 (fun g2 => ?_) (fun g2 => ?_)⟩
      · exact q _ _ Over.empty h0 B1 S1
      · have g2' : 1 ≤ n := by
          have := of_decide_eq_false (Bool.not_eq_true _ ▸ g2 : decide (n < 1) = false)
          omega
        have hn0 : (if n < 0 then (0 : Int) else n) = n := if_neg (by omega)
        rw [hn0] at q
        have one_ok : ∀ (c : Nat) (k : Int) (H' : Hp), c ∈ cs z → 0 ≤ k → k ≤ n → But a H H' → Sto H' a ca → Q (.str (Txt.mul ⟨#[c]⟩ k)) H' := fun c k H' hc k0 k1 B S => by
          refine q _ _ (Over.one hc).mul ?_ B S
          rw [length_mul]
          show ((1 * k.toNat : Nat) : Int) ≤ n
          omega
        refine ⟨_, rfl, rfl, _, rfl, ite2 (fun g3 => ?_) (fun g3 => ?_)⟩
        · refine ⟨_, rfl, _, rfl, a, ca, S1, .inl ⟨z, rfl, hz0, hz1, fun c H2 hc B2 S2 => ⟨_, rfl, _, n, rfl, rfl, by show 1 ≤ 16; decide, by omega, by omega, one_ok c n H2 hc (by omega) (Int.le_refl _) (B1.trans B2) S2⟩⟩⟩
        · refine ⟨_, rfl, _, rfl, _, _, rfl, rfl, _, rfl, ite2 (fun g4 => ?_) (fun g4 => ?_)⟩
          · refine ⟨_, rfl, _, rfl, _, _, rfl, rfl, a, ca, _, rfl, S1, by show n + 1 < 1073741824; omega, fun k H2 k0 k1 B2 S2 => ?_⟩
            have k2 : k < n + 1 ∨ k = 0 := k1
            have kn : k ≤ n := by omega
            refine ⟨_, rfl, rfl, _, rfl, ite2 (fun g5 => ?_) (fun g5 => ?_)⟩
            · exact ⟨_, rfl, _, rfl, a, ca, S2, .inl ⟨z, rfl, hz0, hz1, fun c H3 hc B3 S3 => ⟨_, rfl, _, k, rfl, rfl, by show 1 ≤ 16; decide, by omega, by omega, one_ok c k H3 hc k0 kn ((B1.trans B2).trans B3) S3⟩⟩⟩
            · refine ⟨⟨_, rfl⟩, _, rfl, k, rfl, by show -(2 ^ 62 : Int) ≤ k; omega, by show k < 2 ^ 62; omega, fun D hD => ?_⟩
              have hDa : D ≠ a := (S2.ne hD).1
              refine lc_range (lo := 0) (n := (k).toNat) (fun i H' => ∃ ys : List Str, H' D = some (.lst (ys.map V.str)) ∧ ys.length = i ∧ (∀ y ∈ ys, ∃ c ∈ cs z, y = ⟨#[c]⟩) ∧ But a H H' ∧ Sto H' a ca) ?_ ?_ ?_
              · exact ⟨[], upd_same, rfl, fun y m => absurd m List.not_mem_nil, (B1.trans B2).trans (But.new hD), S2.new hD⟩
              · rintro i H' hi ⟨ys, h1, h2, h3, B, S'⟩
                refine ⟨rfl, ?_⟩
                refine ⟨_, rfl, _, rfl, a, ca, S', .inl ⟨z, rfl, hz0, hz1, fun c H3 hc B3 S3 => ?_⟩⟩
                refine ⟨_, B3 _ _ hDa h1, ?_, ys ++ [⟨#[c]⟩], ?_, ?_, ?_, ?_, ?_⟩
                · rw [List.length_map, h2]
                  have hi' : i < (k).toNat := hi
                  exact Nat.lt_of_lt_of_le (by omega : i < 4000000) (by decide)
                · rw [upd_same, List.map_append]
                  rfl
                · rw [List.length_append, h2]
                  rfl
                · intro y m
                  rcases List.mem_append.mp m with m | m
                  · exact h3 y m
                  · exact ⟨c, hc, List.mem_singleton.mp m⟩
                · exact (B1.trans B2).grown hD (B.trans B3) (B3 _ _ hDa h1)
                · exact S3.put (S2.ne hD)
              · rintro H' ⟨ys, h1, h2, h3, B, S'⟩
                have sum1 : (ys.map (·.length)).sum = ys.length := by
                  clear h1 h2
                  induction ys with
                  | nil => rfl
                  | cons y r ih =>
                    obtain ⟨c, _, rfl⟩ := h3 y List.mem_cons_self
                    rw [List.map_cons, List.sum_cons, ih fun x m => h3 x (List.mem_cons_of_mem _ m), List.length_cons]
                    show 1 + r.length = r.length + 1
                    omega
                refine ⟨_, _, ys, rfl, rfl, .inl (.inl (.inl h1)), ?_, q _ _ ?_ ?_ B S'⟩
                · rw [sum1]
                  show ys.length + ys.length * 0 ≤ 16777216
                  omega
                · intro c m
                  rw [cs_join0, List.mem_flatten] at m
                  obtain ⟨l, hl, hc⟩ := m
                  obtain ⟨y, hy, rfl⟩ := List.mem_map.mp hl
                  obtain ⟨c', hc', rfl⟩ := h3 y hy
                  rw [cs_one] at hc
                  rw [List.mem_singleton.mp hc]
                  exact hc'
                · have e : (Txt.join (Str.ofString "") ys).length = ys.length := by
                    rw [← cs_len, cs_join0, List.length_flatten, List.map_map]
                    rw [← sum1]
                    congr 1
                  rw [e]
                  omega
          · have nn : 0 ≤ n := by omega
            refine ⟨_, rfl, rfl, _, rfl, ite2 (fun g5 => ?_) (fun g5 => ?_)⟩
            · exact ⟨_, rfl, _, rfl, a, ca, S1, .inl ⟨z, rfl, hz0, hz1, fun c H3 hc B3 S3 => ⟨_, rfl, _, n, rfl, rfl, by show 1 ≤ 16; decide, by omega, by omega, one_ok c n H3 hc nn (Int.le_refl _) (B1.trans B3) S3⟩⟩⟩
            · refine ⟨⟨_, rfl⟩, _, rfl, n, rfl, by show -(2 ^ 62 : Int) ≤ n; omega, by show n < 2 ^ 62; omega, fun D hD => ?_⟩
              have hDa : D ≠ a := (S1.ne hD).1
              refine lc_range (lo := 0) (n := (n).toNat) (fun i H' => ∃ ys : List Str, H' D = some (.lst (ys.map V.str)) ∧ ys.length = i ∧ (∀ y ∈ ys, ∃ c ∈ cs z, y = ⟨#[c]⟩) ∧ But a H H' ∧ Sto H' a ca) ?_ ?_ ?_
              · exact ⟨[], upd_same, rfl, fun y m => absurd m List.not_mem_nil, B1.trans (But.new hD), S1.new hD⟩
              · rintro i H' hi ⟨ys, h1, h2, h3, B, S'⟩
                refine ⟨rfl, ?_⟩
                refine ⟨_, rfl, _, rfl, a, ca, S', .inl ⟨z, rfl, hz0, hz1, fun c H3 hc B3 S3 => ?_⟩⟩
                refine ⟨_, B3 _ _ hDa h1, ?_, ys ++ [⟨#[c]⟩], ?_, ?_, ?_, ?_, ?_⟩
                · rw [List.length_map, h2]
                  have hi' : i < (n).toNat := hi
                  exact Nat.lt_of_lt_of_le (by omega : i < 4000000) (by decide)
                · rw [upd_same, List.map_append]
                  rfl
                · rw [List.length_append, h2]
                  rfl
                · intro y m
                  rcases List.mem_append.mp m with m | m
                  · exact h3 y m
                  · exact ⟨c, hc, List.mem_singleton.mp m⟩
                · exact B1.grown hD (B.trans B3) (B3 _ _ hDa h1)
                · exact S3.put (S1.ne hD)
              · rintro H' ⟨ys, h1, h2, h3, B, S'⟩
                have sum1 : (ys.map (·.length)).sum = ys.length := by
                  clear h1 h2
                  induction ys with
                  | nil => rfl
                  | cons y r ih =>
                    obtain ⟨c, _, rfl⟩ := h3 y List.mem_cons_self
                    rw [List.map_cons, List.sum_cons, ih fun x m => h3 x (List.mem_cons_of_mem _ m), List.length_cons]
                    show 1 + r.length = r.length + 1
                    omega
                refine ⟨_, _, ys, rfl, rfl, .inl (.inl (.inl h1)), ?_, q _ _ ?_ ?_ B S'⟩
                · rw [sum1]
                  show ys.length + ys.length * 0 ≤ 16777216
                  omega
                · intro c m
                  rw [cs_join0, List.mem_flatten] at m
                  obtain ⟨l, hl, hc⟩ := m
                  obtain ⟨y, hy, rfl⟩ := List.mem_map.mp hl
                  obtain ⟨c', hc', rfl⟩ := h3 y hy
                  rw [cs_one] at hc
                  rw [List.mem_singleton.mp hc]
                  exact hc'
                · have e : (Txt.join (Str.ofString "") ys).length = ys.length := by
                    rw [← cs_len, cs_join0, List.length_flatten, List.map_map]
                    rw [← sum1]
                    congr 1
                  rw [e]
                  omega

def sp_reader [Tabl] (_ : PySem.W.Frag) : Sp := fun vs H Q _ => ∃ (a ca : Addr) (r z : Str) (lim : Int), vs = [.ref a, .str r, .str z, .int lim] ∧ Sto H a ca ∧ IsAlpha r ∧ IsAlpha z ∧ 1 ≤ lim ∧ lim ≤ 64 ∧
  ∀ (p M F : Addr) (f : Str) (mv : Grid) (fin : List (Option Str)) (H' : Hp), GoodR r z f mv fin → Short 3 f mv fin → (mv.length : Int) ≤ lim → But a H H' → Sto H' a ca → H p = none → (∀ L : List Addr, (∀ c ∈ L, H c ≠ none) → RP L H' p r z f mv fin M F) → Q (.ref p) H'
theorem ok_reader (T : Txt K mg base) : FnOk P w K mg base CX0 (4 + 1) T.f_reader T.fd_reader ["store", "read", "write", "limit"] (sp_reader K) := by
  refine T.F_reader.ok sc_reader (fun vs H Q E h => ?_) (fun cdv A outer s H vs Q E hr h => ?_)
  · obtain ⟨a, ca, r, z, lim, rfl, _⟩ := h
    rfl
  · obtain ⟨a, ca, r, z, lim, rfl, S, ar, az, l1, l64, q⟩ := h
    refine ⟨_, (pss_cons (ps_set (i := 4) sc_reader.nd rfl (.inl rfl) (pe_call (ok_between T) (hr.mono (by first | decide | exact Nat.le_refl _)) (by rfl) T.g_between T.F_between.kp T.b_between .nil pass0 (pa_cons (pv 0) (pa_cons pe_int (pa_cons (pv 3) pa_nil)))))
      (pss_cons (ps_set (i := 5) sc_reader.nd rfl (.inl rfl) (pe_call (ok_pick T) (hr.mono (by first | decide | exact Nat.le_refl _)) (by rfl) T.g_pick T.F_pick.kp T.b_pick .nil pass0 (pa_cons (pv 0) (pa_cons (pe_lst (pa_cons pe_int (pa_cons pe_int (pa_cons pe_int (pa_cons pe_int (pa_cons pe_int (pa_cons pe_int pa_nil))))))) pa_nil))))
      (pss_cons (ps_set (i := 6) sc_reader.nd rfl (.inl rfl) (pe_call (ok_take T) (hr.mono (by first | decide | exact Nat.le_refl _)) (by rfl) T.g_take T.F_take.kp T.b_take .nil pass0 (pa_cons (pv 0) (pa_cons pe_int pa_nil))))
      (pss_cons (ps_set (i := 7) sc_reader.nd rfl (.inl rfl) (pe_lst pa_nil))
      (pss_cons (ps_set (i := 8) sc_reader.nd rfl (.inl rfl) (pe_lst pa_nil))
      (pss_cons (ps_for PassesOwn.never rfl (pi_range1 (by rfl) T.z_range (pa_cons (pv 4) pa_nil)) (pg_name (i := 9) sc_reader.nd rfl (.inl rfl)) (pss_cons (ps_set (i := 10) sc_reader.nd rfl (.inl rfl) (pe_lst pa_nil))
      (pss_cons (ps_for PassesOwn.never rfl (pi_range1 (by rfl) T.z_range (pa_cons (pe_callB call_len_str (by rfl) T.z_len PySem.boot_len (pa_cons (pv 1) pa_nil)) pa_nil)) (pg_name (i := 11) sc_reader.nd rfl (.inl rfl)) (pss_cons (ps_set (i := 12) sc_reader.nd rfl (.inl rfl) (pe_tup (pa_cons (pe_call (ok_word T) (hr.mono (by first | decide | exact Nat.le_refl _)) (by rfl) T.g_word T.F_word.kp T.b_word .nil pass0 (pa_cons (pv 0) (pa_cons (pv 2) (pa_cons (pv 5) pa_nil)))) (pa_cons (pe_call (ok_take T) (hr.mono (by first | decide | exact Nat.le_refl _)) (by rfl) T.g_take T.F_take.kp T.b_take .nil pass0 (pa_cons (pv 0) (pa_cons (pv 4) pa_nil))) pa_nil))))
      (C8.pss_cut (ps_if (PW.pt (pw_and (pt_cmpR op_gt (pv 6) pe_int (nomark _)) (pw_and1 (pt_cmpR op_eq (pv 11) pe_int (nomark _))))) (pss_one (ps_set (i := 12) sc_reader.nd rfl (.inl rfl) (pe_tup (pa_cons (pe_ix ix_tup (pv 12) pe_int (fun _ _ => rfl)) (pa_cons (pe_callB (call_min2 rfl) (by rfl) T.z_min (by decide +kernel) (pa_cons (pe_op op_add (pv 9) pe_int) (pa_cons (pe_op op_sub (pv 4) pe_int) pa_nil))) pa_nil))))) pss_nil)
      (C8.pss_cut (ps_if (PW.pt (pw_or (pt_cmpR op_eq (pv 6) pe_int (nomark _)) (pw_or1 (PW.pt (pw_and (pt_cmpR op_ne (pv 6) pe_int (nomark _)) (pw_and1 (pt_cmpR op_eq (pe_call (ok_take T) (hr.mono (by first | decide | exact Nat.le_refl _)) (by rfl) T.g_take T.F_take.kp T.b_take .nil pass0 (pa_cons (pv 0) (pa_cons pe_int pa_nil))) pe_int (nomark _)))))))) (pss_one (ps_set (i := 12) sc_reader.nd rfl (.inl rfl) pe_non)) pss_nil)
      (pss_one (ps_expr (pe_bm PySem.F.plainAttrs_list PySem.F.slot_list_append PySem.F.type_list_append mt_append (pv 10) (pa_cons (pv 12) pa_nil))))))))
      (pss_cons (ps_expr (pe_bm PySem.F.plainAttrs_list PySem.F.slot_list_append PySem.F.type_list_append mt_append (pv 7) (pa_cons (pv 10) pa_nil)))
      (pss_cons (ps_set (i := 13) sc_reader.nd rfl (.inl rfl) (pe_call (ok_word T) (hr.mono (by first | decide | exact Nat.le_refl _)) (by rfl) T.g_word T.F_word.kp T.b_word .nil pass0 (pa_cons (pv 0) (pa_cons (pv 2) (pa_cons (pv 5) pa_nil)))))
      (C8.pss_cut (ps_if (PW.pt (pw_or (pt_cmpR op_eq (pv 6) pe_int (nomark _)) (pw_or1 (PW.pt (pw_and (pt_cmpR op_ne (pv 6) pe_int (nomark _)) (pw_and (pt_cmpR op_lt (pv 9) (pe_op op_sub (pv 4) pe_int) (nomark _)) (pw_and1 (pt_cmpR op_eq (pe_call (ok_take T) (hr.mono (by first | decide | exact Nat.le_refl _)) (by rfl) T.g_take T.F_take.kp T.b_take .nil pass0 (pa_cons (pv 0) (pa_cons pe_int pa_nil))) pe_int (nomark _))))))))) (pss_one (ps_set (i := 13) sc_reader.nd rfl (.inl rfl) pe_non)) pss_nil)
      (pss_one (ps_expr (pe_bm PySem.F.plainAttrs_list PySem.F.slot_list_append PySem.F.type_list_append mt_append (pv 8) (pa_cons (pv 13) pa_nil))))))))))
      (pss_one (ps_ret (pe_tup (pa_cons (pv 1) (pa_cons (pv 2) (pa_cons (pe_call (ok_word T) (hr.mono (by first | decide | exact Nat.le_refl _)) (by rfl) T.g_word T.F_word.kp T.b_word .nil pass0 (pa_cons (pv 0) (pa_cons (pv 2) (pa_cons (pv 5) pa_nil)))) (pa_cons (pv 7) (pa_cons (pv 8) pa_nil)))))))))))))), ?_⟩
    have z0 := az.len1
    have z4 : z.length ≤ 4000000 := az.small
    refine ⟨_, rfl, _, rfl, a, ca, 1, lim, rfl, S, by omega, fun n H1 n1 n2 B1 S1 => ?_⟩
    obtain ⟨n, rfl⟩ := Int.eq_ofNat_of_zero_le (by omega : 0 ≤ n)
    have n64 : n ≤ 64 := by omega
    have nl : (n : Int) ≤ lim := by omega
    refine ⟨_, rfl, by show 6 ≤ sizeLine; decide, fun p np => ⟨a, ca, S1.new np, .inr ⟨p, _, rfl, (S1.ne np).1, upd_same, by show 0 < 6; decide, by show 6 ≤ 4000000; decide, fun x H3 mx B3 S3 => ?_⟩⟩⟩
    obtain ⟨lo, rfl, lo0, lo3⟩ : ∃ lo : Int, x = .int lo ∧ 0 ≤ lo ∧ lo ≤ 3 := by
      simp only [List.mem_cons, List.not_mem_nil, or_false] at mx
      rcases mx with h | h | h | h | h | h <;> exact ⟨_, h, by decide, by decide⟩
    have B3 := (B1.trans (But.new np)).trans B3
    clear S1 B1 mx np
    have wordOk : ∀ {v : Str}, (v.length : Int) ≤ (if lo < 0 then 0 else lo) → v.length ≤ 3 := fun {v} h => by
      rw [if_neg (by omega)] at h
      omega
    refine ⟨_, rfl, a, ca, 10, rfl, S3, by decide, fun kd H4 _ _ B4 S4 => ?_⟩
    have B4 := B3.trans B4
    refine ⟨by show 0 ≤ sizeLine; decide, fun M nM => ?_⟩
    have xM := S4.ne nM
    have nMH := B4.free nM xM.1
    have k5 := same_new (o := .lst []) nM
    have hM : (upd H4 M (.lst [])) M = some (.lst []) := upd_same
    have S5 := S4.new (o := .lst []) nM
    have B5 := B4.trans (But.same k5)
    generalize upd H4 M (.lst []) = H5 at k5 hM S5 B5 ⊢
    refine ⟨by show 0 ≤ sizeLine; decide, fun F nF => ?_⟩
    have xF := S5.ne nF
    have nFH := B5.free nF xF.1
    have MF : M ≠ F := fun e => by rw [← e, hM] at nF; cases nF
    have k6 := same_new (o := .lst []) nF
    have hF : (upd H5 F (.lst [])) F = some (.lst []) := upd_same
    have hM6 := k6 _ _ hM
    have S6 := S5.new (o := .lst []) nF
    have B6 := B5.trans (But.same k6)
    generalize upd H5 F (.lst []) = H6 at k6 hF hM6 S6 B6 ⊢
    clear B3 B4 B5 S3 S4 S5 hM k5 k6 nM nF
    obtain ⟨Ok, eOk⟩ : ∃ Ok : Addr → Prop, Ok = fun p => H p = none ∧ p ≠ M ∧ p ≠ F ∧ p ≠ a := ⟨_, rfl⟩
    have ok1 : ∀ p, Ok p → H p = none := fun p h => by rw [eOk] at h; exact h.1
    have okM : ∀ p, Ok p → p ≠ M := fun p h => by rw [eOk] at h; exact h.2.1
    have okF : ∀ p, Ok p → p ≠ F := fun p h => by rw [eOk] at h; exact h.2.2.1
    have oka : ∀ p, Ok p → p ≠ a := fun p h => by rw [eOk] at h; exact h.2.2.2
    refine ⟨_, rfl, (n : Int), rfl, by omega, by omega, ?_⟩
    refine for_range (lo := 0) (n := n) (fun i σ' G => (∃ y9 y10 y11 y12 y13, σ' = [some (.ref a), some (.str r), some (.str z), some (.int lim), some (.int (n : Int)), some (.int lo), some (.int kd), some (.ref M), some (.ref F), y9, y10, y11, y12, y13]) ∧ But a H G ∧ Sto G a ca ∧ (∃ mv : Grid, RowsAt Ok G M mv ∧ mv.length = i ∧ (∀ row ∈ mv, row.length = r.length ∧ ∀ m ∈ row, StpOk z n m)) ∧ ∃ fin : List (Option Str), G F = some (.lst (fin.map finV)) ∧ fin.length = i ∧ ∀ x, some x ∈ fin → Over z x ∧ x.length ≤ 3)
      ⟨⟨_, _, _, _, _, rfl⟩, B6, S6, ⟨[], ⟨[], hM6, .nil⟩, rfl, fun row m => absurd m List.not_mem_nil⟩, [], hF, rfl, fun x m => absurd m List.not_mem_nil⟩ ?_ ?_
    · rintro i σ' G hi ⟨⟨y9, y10, y11, y12, y13, rfl⟩, BG, SG, ⟨mv, rw_, lmv, gmv⟩, fin, hFG, lfin, gfin⟩
      refine ⟨by show 0 ≤ sizeLine; decide, fun R nR => ?_⟩
      have xR := SG.ne nR
      have nRH := BG.free nR xR.1
      have MR : M ≠ R := fun e => by obtain ⟨_, h, _⟩ := rw_; rw [e, nR] at h; cases h
      have FR : F ≠ R := fun e => by rw [e, nR] at hFG; cases hFG
      have kR := same_new (o := .lst []) nR
      have hR : (upd G R (.lst [])) R = some (.lst []) := upd_same
      have S1 := SG.new (o := .lst []) nR
      have B1 := BG.trans (But.same kR)
      have rw1 := (rw_.apart nR).same kR
      have hF1 := kR _ _ hFG
      generalize upd G R (.lst []) = G1 at kR hR S1 B1 rw1 hF1 ⊢
      clear kR nR rw_ hFG SG BG
      have rlen : r.length ≤ 4 := ar.len4
      refine ⟨_, rfl, r, rfl, small_text ar.small, (r.length : Int), rfl, by omega, by omega, ?_⟩
      refine for_range (lo := 0) (n := r.length) (fun j σ' G => (∃ y11 y12, σ' = [some (.ref a), some (.str r), some (.str z), some (.int lim), some (.int (n : Int)), some (.int lo), some (.int kd), some (.ref M), some (.ref F), some (.int (0 + (i : Int))), some (.ref R), y11, y12, y13]) ∧ But a H G ∧ Sto G a ca ∧ RowsAt (fun p => Ok p ∧ p ≠ R) G M mv ∧ G F = some (.lst (fin.map finV)) ∧ ∃ xs row, G R = some (.lst xs) ∧ Paired (StpAt G) xs row ∧ row.length = j ∧ ∀ m ∈ row, StpOk z n m)
        ⟨⟨_, _, rfl⟩, B1, S1, rw1, hF1, [], [], hR, .nil, rfl, fun m mm => absurd mm List.not_mem_nil⟩ ?_ ?_
      · rintro j σ' G2 hj ⟨⟨y11, y12, rfl⟩, B2, S2, rw2, hF2, xs, row, hR2, st2, lrow, gst⟩
        refine ⟨_, rfl, _, rfl, _, rfl, a, ca, z, lo, rfl, S2, z0, z4, by omega, fun x G3 ox lx b3 s3 => ?_⟩
        have lx := wordOk lx
        refine ⟨_, rfl, _, rfl, a, ca, (n : Int), rfl, s3, by omega, fun q G4 q0 q1 b4 s4 => ⟨by show 2 ≤ sizeLine; decide, fun t nt => ?_⟩⟩
        have q1 : q < (n : Int) := by
          have : q < (n : Int) ∨ q = 0 := q1
          omega
        have b24 := b3.trans b4
        have k5 := same_new (o := .tup [.str x, .int q]) nt
        have ht : (upd G4 t (.tup [.str x, .int q])) t = some (.tup [.str x, .int q]) := upd_same
        have s5 := s4.new (o := .tup [.str x, .int q]) nt
        have b25 := b24.trans (But.same k5)
        generalize upd G4 t (.tup [.str x, .int q]) = G5 at k5 ht s5 b25 ⊢
        refine ⟨fun σ' G' => ∃ t x q, σ' = [some (.ref a), some (.str r), some (.str z), some (.int lim), some (.int (n : Int)), some (.int lo), some (.int kd), some (.ref M), some (.ref F), some (.int (0 + (i : Int))), some (.ref R), some (.int (0 + (j : Int))), some (.ref t), y13] ∧ G' t = some (.tup [.str x, .int q]) ∧ Over z x ∧ x.length ≤ 3 ∧ 0 ≤ q ∧ q < (n : Int) ∧ Same G5 G', ?_, ?_⟩
        · refine ⟨_, rfl, _, _, rfl, rfl, _, rfl, ite2 (fun _ => ?_) (fun _ => iteF ⟨t, x, q, rfl, ht, ox, lx, q0, q1, .refl _⟩)⟩
          refine ⟨_, rfl, rfl, _, rfl, ite2 (fun _ => ?_) (fun _ => ⟨t, x, q, rfl, ht, ox, lx, q0, q1, .refl _⟩)⟩
          refine ⟨_, rfl, _, _, _, _, rfl, rfl, .inl (.inl ht), rfl, ?_⟩
          refine ⟨_, rfl, _, _, rfl, rfl, _, rfl, _, _, rfl, rfl, _, _, rfl, by show 2 ≤ sizeLine; decide, fun t2 nt2 => ?_⟩
          exact ⟨t2, x, _, rfl, upd_same, ox, lx, by split <;> omega, by split <;> omega, same_new nt2⟩
        rintro σ' G6 ⟨t, x, q, rfl, ht, ox, lx, q0, q1, s56⟩
        have s6 := s5.same s56
        have b26 := b25.trans (But.same s56)
        clear b24 b25 b3 b4 s3 s4 s5 s56 k5
        have so : StpOk z (n : Int) (some (x, q)) := fun x' q' e => by
          cases e
          exact ⟨ox, by omega, q0, q1⟩
        refine ⟨fun σ' G' => ∃ v m, σ' = [some (.ref a), some (.str r), some (.str z), some (.int lim), some (.int (n : Int)), some (.int lo), some (.int kd), some (.ref M), some (.ref F), some (.int (0 + (i : Int))), some (.ref R), some (.int (0 + (j : Int))), some v, y13] ∧ StpAt G' v m ∧ StpOk z n m ∧ But a G6 G' ∧ Sto G' a ca, ?_, ?_⟩
        · dsimp only [gName]
          refine un_if (tt_spec (fun bb G => But a G6 G ∧ Sto G a ca) (fun Q' kk => ?_) (fun bb G r1 => ?_))
          · refine un_or ⟨_, rfl, rfl, _, rfl, ite2 (fun _ => kk _ _ ⟨.refl _, s6⟩) (fun _ => ?_)⟩
            refine ⟨_, rfl, rfl, _, rfl, ite2 (fun _ => ?_) (fun _ => kk _ _ ⟨.refl _, s6⟩)⟩
            exact ⟨_, rfl, a, ca, 4, rfl, s6, by decide, fun d G _ _ b s => ⟨rfl, _, rfl, kk _ _ ⟨b, s⟩⟩⟩
          · obtain ⟨b7, s7⟩ := r1
            cases bb with
            | true => exact iteT ⟨.non, none, rfl, rfl, (fun x q e => by cases e), b7, s7⟩
            | false => exact iteF ⟨.ref t, some (x, q), rfl, ⟨t, rfl, b7 _ _ (fun e => s6.ntup _ (by rw [← e]; exact ht)) ht⟩, so, b7, s7⟩
        rintro σ' G7 ⟨v, m, rfl, sv, so, b67, s7⟩
        have b27 := b26.trans b67
        have hR7 := b27 _ _ xR.1 hR2
        have st7 : Paired (StpAt G7) xs row := stps_keep st2 fun t zs e => b27 _ _ (fun z => S2.ntup _ (by rw [← z]; exact e)) e
        have rw7 := rw2.but b27 S2.ntup xM.1 fun p o => oka p o.1
        have hF7 := b27 _ _ xF.1 hF2
        have lxs := st7.length
        have kt : ∀ t zs, G7 t = some (.tup zs) → (upd G7 R (.lst (xs ++ [v]))) t = some (.tup zs) := fun t zs e => by rw [upd_ne fun z => by rw [z, hR7] at e; cases e]; exact e
        refine ⟨_, rfl, .inl ⟨rfl, _, .inl (.inl hR7)⟩, _, rfl, R, xs, v, rfl, rfl, hR7, Nat.lt_of_le_of_lt (by omega : _ ≤ 1000) (by decide), ⟨_, _, rfl⟩, (But.refl H).grown nRH (B2.trans b27) hR7, s7.put xR, rw7.put hR7 MR (fun p o => o.2), by rw [upd_ne FR]; exact hF7, _, _, upd_same, stps_snoc st7 kt sv, by rw [List.length_append]; show row.length + 1 = _; omega, fun m' mm => ?_⟩
        rcases List.mem_append.mp mm with mm | mm
        · exact gst m' mm
        · rw [List.mem_singleton.mp mm]
          exact so
      · rintro σ' G2 ⟨⟨y11, y12, rfl⟩, B2, S2, rw2, hF2, xs, row, hR2, st2, lrow, gst⟩
        obtain ⟨rows, hM2, pr2⟩ := rw2.imp (Ok' := Ok) fun p o => o.1
        have lr2 := pr2.length
        refine ⟨_, rfl, .inl ⟨rfl, _, .inl (.inl hM2)⟩, _, rfl, M, rows, .ref R, rfl, rfl, hM2, Nat.lt_of_le_of_lt (by omega : _ ≤ 1000) (by decide), ?_⟩
        have rw3 := RowsAt.push (row := row) pr2 hM2 hR2 (by rw [eOk]; exact ⟨nRH, Ne.symm MR, Ne.symm FR, xR.1⟩) st2 okM
        have S3 : Sto (upd G2 M (.lst (rows ++ [.ref R]))) a ca := S2.put xM
        have B3 : But a H (upd G2 M (.lst (rows ++ [.ref R]))) := (But.refl H).grown nMH B2 hM2
        have hF3 : (upd G2 M (.lst (rows ++ [.ref R]))) F = some (.lst (fin.map finV)) := by rw [upd_ne (Ne.symm MF)]; exact hF2
        show tSeq _ _ _ _ (upd G2 M (.lst (rows ++ [.ref R])))
        generalize upd G2 M (.lst (rows ++ [.ref R])) = G3 at rw3 S3 B3 hF3 ⊢
        clear pr2 hM2 rw2 hF2 hR2 st2 S2 B2
        refine ⟨_, rfl, _, rfl, _, rfl, a, ca, z, lo, rfl, S3, z0, z4, by omega, fun x G4 ox lx b4 s4 => ?_⟩
        have lx := wordOk lx
        refine ⟨fun σ' G' => ∃ o : Option Str, σ' = [some (.ref a), some (.str r), some (.str z), some (.int lim), some (.int (n : Int)), some (.int lo), some (.int kd), some (.ref M), some (.ref F), some (.int (0 + (i : Int))), some (.ref R), y11, y12, some (finV o)] ∧ (∀ x, o = some x → Over z x ∧ x.length ≤ 3) ∧ But a G3 G' ∧ Sto G' a ca, ?_, ?_⟩
        · dsimp only [gName]
          refine un_if (tt_spec (fun bb G => But a G4 G ∧ Sto G a ca) (fun Q' kk => ?_) (fun bb G r1 => ?_))
          · refine un_or ⟨_, rfl, rfl, _, rfl, ite2 (fun _ => kk _ _ ⟨.refl _, s4⟩) (fun _ => ?_)⟩
            refine ⟨_, rfl, rfl, _, rfl, ite2 (fun _ => ?_) (fun _ => kk _ _ ⟨.refl _, s4⟩)⟩
            refine ⟨_, rfl, _, rfl, _, _, rfl, rfl, _, _, rfl, rfl, _, rfl, ite2 (fun _ => ?_) (fun _ => kk _ _ ⟨.refl _, s4⟩)⟩
            exact ⟨_, rfl, a, ca, 2, rfl, s4, by decide, fun d G _ _ b s => ⟨rfl, _, rfl, kk _ _ ⟨b, s⟩⟩⟩
          · obtain ⟨b5, s5⟩ := r1
            cases bb with
            | true => exact iteT ⟨none, rfl, (fun x e => by cases e), b4.trans b5, s5⟩
            | false => exact iteF ⟨some x, rfl, fun x' e => (by cases e; exact ⟨ox, by omega⟩), b4.trans b5, s5⟩
        rintro σ' G5 ⟨o, rfl, oo, b5, s5⟩
        have hF5 := b5 _ _ xF.1 hF3
        have rw5 := rw3.but b5 S3.ntup xM.1 oka
        refine ⟨_, rfl, .inl ⟨rfl, _, .inl (.inl hF5)⟩, _, rfl, F, _, _, rfl, rfl, hF5, by rw [List.length_map]; exact Nat.lt_of_le_of_lt (by omega : _ ≤ 1000) (by decide), ⟨_, _, _, _, _, rfl⟩, (But.refl H).grown nFH (B3.trans b5) hF5, s5.put xF, ⟨mv ++ [row], rw5.put hF5 MF okF, by rw [List.length_append]; show mv.length + 1 = _; omega, fun row' mr => ?_⟩, fin ++ [o], by rw [upd_same, List.map_append]; rfl, by rw [List.length_append]; show fin.length + 1 = _; omega, fun x' mx => ?_⟩
        · rcases List.mem_append.mp mr with mr | mr
          · exact gmv row' mr
          · rw [List.mem_singleton.mp mr]
            exact ⟨lrow, gst⟩
        · rcases List.mem_append.mp mx with mx | mx
          · exact gfin x' mx
          · exact oo x' (List.mem_singleton.mp mx).symm
    · rintro σ' G ⟨⟨y9, y10, y11, y12, y13, rfl⟩, BG, SG, ⟨mv, rw_, lmv, gmv⟩, fin, hFG, lfin, gfin⟩
      refine ⟨_, rfl, _, rfl, _, rfl, _, rfl, _, rfl, a, ca, z, lo, rfl, SG, z0, z4, by omega, fun f H7 of lf B7 S7 => ?_⟩
      have lf := wordOk lf
      refine ⟨_, rfl, _, rfl, by show 5 ≤ sizeLine; decide, fun p np => ?_⟩
      have B := BG.trans B7
      have xp := S7.ne np
      have rw7 := (rw_.but B7 SG.ntup xM.1 oka).same (same_new (o := .tup [.str r, .str z, .str f, .ref M, .ref F]) np)
      have hF7 := same_new (o := .tup [.str r, .str z, .str f, .ref M, .ref F]) np _ _ (B7 _ _ xF.1 hFG)
      refine q p M F f mv fin _ ⟨ar, az, of, by omega, by omega, by omega, fun row m => (gmv row m).1, fun row m x t mt => by rw [lmv]; have h := (gmv row m).2 _ mt x t rfl; exact ⟨h.1, by omega, h.2.2⟩, by omega, fun x m => ⟨(gfin x m).1, by have := (gfin x m).2; omega⟩⟩ ⟨lf, fun row m x t mt => ((gmv row m).2 _ mt x t rfl).2.1, fun x m => (gfin x m).2⟩ (by omega) (B.trans (But.new np)) (S7.new np) (B.free np xp.1) fun L hL => ⟨upd_same, rw7.grid (fun m => hL _ m nMH) (fun p o m => hL _ m (ok1 p o)), hF7, fun m => hL _ m nFH⟩

theorem sing_list {l : List Str} {a : List Nat} (nd : l.Nodup) (m : ∀ k, k ∈ l ↔ ∃ c ∈ a, k = PySem.Froz.sing c) : ∃ ns : List Nat, l = ns.map PySem.Froz.sing ∧ ns.Nodup ∧ ∀ c, c ∈ ns ↔ c ∈ a := by
  have e : l = (l.map fun k => (cs k).headD 0).map PySem.Froz.sing := by
    rw [List.map_map]
    refine (List.map_id'' (fun _ => rfl) l).symm.trans (List.map_congr_left fun k hk => ?_)
    obtain ⟨c, _, rfl⟩ := (m k).mp hk
    rfl
  refine ⟨_, e, ?_, fun c => ?_⟩
  · rw [e] at nd
    exact (List.Pairwise.of_map PySem.Froz.sing (fun a b hne q => hne (congrArg _ q)) nd)
  · constructor
    · intro h
      obtain ⟨k, hk, e2⟩ := List.mem_map.mp h
      obtain ⟨d, hd, rfl⟩ := (m k).mp hk
      have : d = c := e2
      rw [← this]
      exact hd
    · intro h
      exact List.mem_map.mpr ⟨PySem.Froz.sing c, (m _).mpr ⟨c, h, rfl⟩, rfl⟩
def sp_is_letters (_ : PySem.W.Frag) : Sp := fun vs H Q _ => ∃ v : V, vs = [v] ∧ Shal H v ∧ Good H ∧ ∀ (b : Bool) (H' : Hp), (b = true ↔ ∃ x, v = .str x ∧ IsAlpha x) → Same H H' → Q (.bl b) H'
theorem ok_is_letters (T : Txt K mg base) : FnOk P w K mg base CX0 (0 + 1) T.f_is_letters T.fd_is_letters ["value"] (sp_is_letters K) := by
  refine T.F_is_letters.ok sc_is_letters (fun vs H Q E h => ?_) (fun A outer s H vs Q E hr h => ?_)
  · obtain ⟨x, rfl, _⟩ := h
    rfl
  · obtain ⟨v, rfl, sv, good, q⟩ := h
    refine ⟨_, (pss_cons (ps_if (PW.pt (pw_or (pt_not (pt_val (pe_callB call_isi (by rfl) T.z_isinstance (by decide +kernel) (pa_cons (pv 0) (pa_cons (pe_bltn (v := .ty "str") (by rfl) T.z_str (by decide +kernel) rfl) pa_nil))))) (pw_or1 (pt_not (pt_chain op_le op_le pe_int (pe_callB call_len_str (by rfl) T.z_len PySem.boot_len (pa_cons (pv 0) pa_nil)) (pe_glob (v := .int 4) (by rfl) T.c_MAX_LETTERS ⟨_, rfl⟩)))))) (pss_one (ps_ret pe_bl)) pss_nil)
      (pss_cons (ps_if (pt_not (pt_val (GQ.pe_allG hr T.z_all T.c_SMALL_LETTERS T.B_is_letters T.m_is_letters rfl (GQ.genB_by (sc := defScope s_is_letters) (by decide +kernel)) (pv 0)))) (pss_one (ps_ret pe_bl)) pss_nil)
      (pss_one (ps_ret (pe_cmpR (op_eqD hr.units) (pe_callTy (cr_listT rfl) (by rfl) T.z_list (by decide +kernel) (pa_cons (pv 0) pa_nil)) (pe_callB (SetQ.cr_sortedTx rfl hr.units) (by rfl) T.z_sorted (by decide +kernel) (pa_cons (pe_callTy (SetQ.cr_setT2 rfl) (by rfl) T.z_set (by decide +kernel) (pa_cons (pv 0) pa_nil)) pa_nil)) (nomark _)))))), ?_⟩
    obtain ⟨ty, hty, kt⟩ := isi_str (K := K) sv
    refine ⟨_, rfl, _, _, _, _, _, rfl, .ty _, hty, kt, _, rfl, ?_⟩
    cases hs : isStr v with
    | false =>
      refine iteC rfl ?_
      refine iteC rfl ?_
      refine q false _ ⟨fun h => (by cases h), fun h => ?_⟩ (.refl H)
      obtain ⟨x, rfl, _⟩ := h
      cases hs
    | true =>
    obtain ⟨x, rfl⟩ := isStr_of hs
    have sx := sv.text
    replace q : ∀ (b : Bool) (H' : Hp), (b = true ↔ IsAlpha x) → Same H H' → Q (.bl b) H' := fun b H' h s => q b H' (h.trans ⟨fun a => ⟨x, rfl, a⟩, fun ⟨y, e, a⟩ => by cases e; exact a⟩) s
    refine iteF ?_
    refine ⟨_, rfl, x, rfl, small_text sx, _, _, rfl, rfl, _, rfl, ite2 (fun g1 => ?_) (fun g1 => ?_)⟩
    · refine ⟨_, _, rfl, rfl, _, rfl, ?_⟩
      have g1 : 1 ≤ x.length := by
        have := of_decide_eq_true g1
        omega
      by_cases g2 : x.length ≤ 4
      · refine iteN (by rw [decide_eq_true (by omega)]; rfl) ?_
        refine ⟨_, rfl, x, rfl, good, fun H1 s1 => ?_⟩
        by_cases g3 : (x.cps.toList.all fun c => decide (c ∈ (Str.ofString "abcdefghijklmnopqrstuvwxyz").cps.toList)) = true
        · refine ⟨_, rfl, iteN (by rw [g3]; rfl) ?_⟩
          have low : ∀ c ∈ cs x, 97 ≤ c ∧ c ≤ 122 := fun c hc => abc_low c (of_decide_eq_true (List.all_eq_true.mp g3 c hc))
          refine ⟨_, rfl, x, rfl, small_text sx, fun p1 n1 => ?_⟩
          have asc : x.cps.all (· < 128) = true := by
            rw [← Array.all_toList]
            refine List.all_eq_true.mpr fun c hc => decide_eq_true ?_
            have := low c hc
            omega
          have ln : x.cps.toList.length = x.length := cs_len x
          refine ⟨_, rfl, x, rfl, asc, by rw [ln]; omega, fun p2 l n2 nd mem le => ?_⟩
          obtain ⟨ns, rfl, nn, mm⟩ := sing_list nd mem
          refine ⟨p2, _, rfl, upd_same, nd, ?_, fun ws p3 srt perm n3 => ?_⟩
          · rw [ln] at le
            omega
          · obtain ⟨ds, ew, pm, le⟩ := SetQ.sorted_sing srt perm
            have e3 : ws.map V.str = ds.map signV := by
              rw [ew, List.map_map]
              rfl
            have m3 : ∀ d ∈ ds, d < 128 := fun d hd => by
              have := low d ((mm d).mp (pm.mem_iff.mp hd))
              omega
            refine ⟨_, _, dp_signs (SqL.of (same_new n3 _ _ (same_new n2 _ _ upd_same))), dp_signs (SqL.of (by rw [upd_same, e3])), shaped_signs fun c hc => ?_, shaped_signs m3, q _ _ ?_ (((s1.trans (same_new n1)).trans (same_new n2)).trans (same_new n3))⟩
            · have := low c hc
              omega
            · show PyData.eqvAll _ _ = true ↔ _
              rw [eqv_signs, decide_eq_true_iff]
              constructor
              · intro e
                have e' : cs x = ds := e
                have asc : (cs x).Pairwise (· < ·) := by
                  rw [e']
                  exact (List.Pairwise.and le (pm.nodup_iff.mpr nn)).imp fun h => Nat.lt_of_le_of_ne h.1 h.2
                exact ⟨asc, low, g1, g2⟩
              · intro h
                have nx : (cs x).Nodup := h.asc.imp fun h => Nat.ne_of_lt h
                exact SetQ.le_unique ((List.perm_ext_iff_of_nodup nx (pm.nodup_iff.mpr nn)).mpr fun c => ((mm c).symm.trans pm.mem_iff.symm)) (h.asc.imp fun h => Nat.le_of_lt h) le
        · refine ⟨_, rfl, iteC (by rw [Bool.eq_false_iff.mpr g3]; rfl) ?_⟩
          refine q false _ ⟨fun h => (by cases h), fun h => absurd (List.all_eq_true.mpr fun c hc => decide_eq_true ?_) g3⟩ s1
          have := h.low c hc
          show c ∈ cs abc
          rw [cs_abc, List.mem_range'_1]
          omega
      · refine iteC (by rw [decide_eq_false (by omega)]; rfl) ?_
        exact q false _ ⟨fun h => (by cases h), fun h => absurd h.len4 g2⟩ (.refl H)
    · refine ⟨_, rfl, iteC rfl ?_⟩
      refine q false _ ⟨fun h => (by cases h), fun h => absurd (decide_eq_true ?_) g1⟩ (.refl H)
      have := h.len1
      omega

def sp_check_letters [Tabl] (C : Addr) (_ : PySem.W.Frag) : Sp := fun vs H Q E => ∃ v : V, vs = [v] ∧ Shal H v ∧ Good H ∧ (AlphaV v → ∀ H' : Hp, Same H H' → Q v H') ∧ (¬ AlphaV v → Raised H C v E)
theorem ok_check_letters (T : Txt K mg base) : FnOk P w K mg base (L2.CX P w) (3 + 1) T.f_check_letters T.fd_check_letters ["letters"] (sp_check_letters T.C_BadLetters K) := by
  refine T.F_check_letters.okX sc_check_letters (fun vs H Q E h => ?_) (fun cdv A outer s H vs Q E hr h => ?_)
  · obtain ⟨z, rfl, _⟩ := h
    rfl
  · obtain ⟨v, rfl, sv, good, q, qe⟩ := h
    refine ⟨_, (pss_cons (ps_if (pt_not (pt_val (pe_call (ok_is_letters T) (hr.mono (by first | decide | exact Nat.le_refl _)) (by rfl) T.g_is_letters T.F_is_letters.kp T.b_is_letters .nil pass0 (pa_cons (pv 0) pa_nil)))) (pss_one (ps_raise rfl (takes_of rfl rfl rfl rfl) (pmk_err1 T.E_BadLetters T.iI_BadLetters T.tI_BadLetters T.no_BadLetters_value (ok_init1 (k := 0) (p4 := ⟨0, 0, 0, 0⟩) T.FI_BadLetters sci_BadLetters (by decide) rfl) (hr.mono (by first | decide | exact Nat.le_refl _)) T.bI_BadLetters pass0 (pa_cons (pv 0) pa_nil)))) pss_nil)
      (pss_one (ps_ret (pv 0)))), ?_⟩
    refine ⟨_, rfl, v, rfl, sv, good, fun b H1 hb s1 => ⟨_, rfl, ?_⟩⟩
    cases b with
    | true => exact iteF ⟨_, rfl, q (hb.mp rfl) H1 s1⟩
    | false => exact iteC rfl ⟨_, rfl, _, rfl, fun d nd => qe (fun h => by cases hb.mpr h) d H1 _ s1 nd rfl⟩

def sp_is_word (_ : PySem.W.Frag) : Sp := fun vs H Q _ => ∃ L v : V, vs = [L, v] ∧ Shal H L ∧ Shal H v ∧ Good H ∧ ∀ (b : Bool) (H' : Hp), (b = true ↔ ∃ z x, L = .str z ∧ v = .str x ∧ IsAlpha z ∧ Over z x) → Same H H' → Q (.bl b) H'
theorem ok_is_word (T : Txt K mg base) : FnOk P w K mg base CX0 (1 + 1) T.f_is_word T.fd_is_word ["letters", "value"] (sp_is_word K) := by
  refine T.F_is_word.ok sc_is_word (fun vs H Q E h => ?_) (fun A outer s H vs Q E hr h => ?_)
  · obtain ⟨z, x, rfl, _⟩ := h
    rfl
  · obtain ⟨L, v, rfl, sL, sv, good, q⟩ := h
    refine ⟨_, (pss_cons (ps_if (PW.pt (pw_or (pt_not (pt_val (pe_call (ok_is_letters T) (hr.mono (by first | decide | exact Nat.le_refl _)) (by rfl) T.g_is_letters T.F_is_letters.kp T.b_is_letters .nil pass0 (pa_cons (pv 0) pa_nil)))) (pw_or1 (pt_not (pt_val (pe_callB call_isi (by rfl) T.z_isinstance (by decide +kernel) (pa_cons (pv 1) (pa_cons (pe_bltn (v := .ty "str") (by rfl) T.z_str (by decide +kernel) rfl) pa_nil)))))))) (pss_one (ps_ret pe_bl)) pss_nil)
      (pss_one (ps_ret (GQ.pe_allV hr T.z_all (i := 0) rfl T.B_is_word T.m_is_word rfl (GQ.genB_by (sc := defScope s_is_word) (by decide +kernel)) (pv 1))))), ?_⟩
    refine ⟨_, rfl, L, rfl, sL, good, fun b H1 hb s1 => ?_⟩
    cases b with
    | false =>
      refine ⟨_, rfl, iteC rfl (iteC rfl ?_)⟩
      refine q false _ ⟨fun h => (by cases h), fun ⟨z, x, e1, e2, al, _⟩ => ?_⟩ s1
      have := hb.mpr ⟨z, e1, al⟩
      cases this
    | true =>
      obtain ⟨z, rfl, al⟩ := hb.mp rfl
      refine ⟨_, rfl, iteF ?_⟩
      obtain ⟨ty, hty, kt⟩ := isi_str (K := K) (sv.same s1)
      refine ⟨_, rfl, _, _, _, _, _, rfl, .ty _, hty, kt, _, rfl, ?_⟩
      cases hs : isStr v with
      | false =>
        refine iteC rfl ?_
        refine q false _ ⟨fun h => (by cases h), fun ⟨z, x, e1, e2, al, _⟩ => ?_⟩ s1
        rw [e2] at hs
        cases hs
      | true =>
      obtain ⟨x, rfl⟩ := isStr_of hs
      refine iteF ?_
      refine ⟨_, rfl, x, z, rfl, rfl, s1.good good, fun H2 s2 => ?_⟩
      refine q _ _ ?_ (s1.trans s2)
      rw [List.all_eq_true]
      constructor
      · exact fun h => ⟨z, x, rfl, rfl, al, fun c hc => of_decide_eq_true (h c hc)⟩
      · rintro ⟨z', x', e1, e2, _, h⟩ c hc
        cases e1
        cases e2
        exact decide_eq_true (h c hc)

def sp_is_word_up_to (_ : PySem.W.Frag) : Sp := fun vs H Q _ => ∃ (L v : V) (m : Int), vs = [L, v, .int m] ∧ Shal H L ∧ Shal H v ∧ Good H ∧ ∀ (b : Bool) (H' : Hp), (b = true ↔ ∃ z x, L = .str z ∧ v = .str x ∧ IsAlpha z ∧ Over z x ∧ (x.length : Int) ≤ m) → Same H H' → Q (.bl b) H'
theorem ok_is_word_up_to (T : Txt K mg base) : FnOk P w K mg base CX0 (2 + 1) T.f_is_word_up_to T.fd_is_word_up_to ["letters", "value", "most"] (sp_is_word_up_to K) := by
  refine T.F_is_word_up_to.ok sc_is_word_up_to (fun vs H Q E h => ?_) (fun cdv A outer s H vs Q E hr h => ?_)
  · obtain ⟨z, x, m, rfl, _⟩ := h
    rfl
  · obtain ⟨L, v, m, rfl, sL, sv, good, q⟩ := h
    refine ⟨_, (pss_one (ps_ret (pe_and (pe_callB call_isi (by rfl) T.z_isinstance (by decide +kernel) (pa_cons (pv 1) (pa_cons (pe_bltn (v := .ty "str") (by rfl) T.z_str (by decide +kernel) rfl) pa_nil))) (pe_and (pe_cmpR op_le (pe_callB call_len_str (by rfl) T.z_len PySem.boot_len (pa_cons (pv 1) pa_nil)) (pv 2) (nomark _)) (pe_one (pe_call (ok_is_word T) (hr.mono (by first | decide | exact Nat.le_refl _)) (by rfl) T.g_is_word T.F_is_word.kp T.b_is_word .nil pass0 (pa_cons (pv 0) (pa_cons (pv 1) pa_nil)))))))), ?_⟩
    obtain ⟨ty, hty, kt⟩ := isi_str (K := K) sv
    refine ⟨_, rfl, _, _, _, _, _, rfl, .ty _, hty, kt, _, rfl, ?_⟩
    cases hs : isStr v with
    | false =>
      refine iteF (q false _ ⟨fun h => (by cases h), fun ⟨z, x, e1, e2, _⟩ => ?_⟩ (.refl H))
      rw [e2] at hs
      cases hs
    | true =>
    obtain ⟨x, rfl⟩ := isStr_of hs
    refine iteT ?_
    refine ⟨_, rfl, x, rfl, small_text sv.text, _, rfl, _, _, rfl, rfl, _, rfl, ite2 (fun g => ?_) (fun g => ?_)⟩
    · refine ⟨_, rfl, _, rfl, L, .str x, rfl, sL, sv, good, fun b H1 hb s1 => q b H1 ?_ s1⟩
      rw [hb]
      exact ⟨fun ⟨z, y, e1, e2, al, o⟩ => ⟨z, y, e1, e2, al, o, by cases e2; exact of_decide_eq_true g⟩, fun ⟨z, y, e1, e2, al, o, _⟩ => ⟨z, y, e1, e2, al, o⟩⟩
    · refine q _ _ ⟨fun h => (by simp at h), fun ⟨z, y, e1, e2, al, o, l⟩ => absurd (decide_eq_true ?_) g⟩ (.refl H)
      cases e2
      exact l

def sp_checked_finals [Tabl] (K : PySem.W.Frag) : Sp := fun vs H Q _ => ∃ (z : Str) (F : Addr) (fin : List (Option Str)), vs = [.str z, .int (fin.length : Int), .ref F] ∧ IsAlpha z ∧ H F = some (.lst (fin.map finV)) ∧ fin.length ≤ 64 ∧ (∀ x, some x ∈ fin → Over z x ∧ x.length ≤ 400) ∧ Good H ∧ ∀ (N : Addr) (H' : Hp), Same H H' → H N = none → H' N = some (.lst (fin.map finV)) → Q (.ref N) H'
theorem ok_checked_finals (T : Txt K mg base) : FnOk P w K mg base CX0 (3 + 1) T.f_checked_finals T.fd_checked_finals ["write", "size", "finals"] (sp_checked_finals K) := by
  refine T.F_checked_finals.ok sc_checked_finals (fun vs H Q E h => ?_) (fun cdv A outer s H vs Q E hr h => ?_)
  · obtain ⟨z, F, fin, rfl, _⟩ := h
    rfl
  · obtain ⟨z, F, fin, rfl, al, hF, l64, ok, good, q⟩ := h
    refine ⟨_, (pss_cons (ps_if (PW.pt (pw_or (pt_not (pt_val (pe_callB call_isiT (by rfl) T.z_isinstance (by decide +kernel) (pa_cons (pv 2) (pa_cons (pe_tup (pa_cons (pe_bltn (v := .ty "list") (by rfl) T.z_list (by decide +kernel) rfl) (pa_cons (pe_bltn (v := .ty "tuple") (by rfl) T.z_tuple (by decide +kernel) rfl) pa_nil))) pa_nil))))) (pw_or1 (pt_cmpR op_ne (pe_callB call_len_seq (by rfl) T.z_len PySem.boot_len (pa_cons (pv 2) pa_nil)) (pv 1) (nomark _))))) (pss_one ps_dead) pss_nil)
      (pss_cons (ps_for PassesOwn.never rfl (pi_enum (by rfl) T.z_enumerate (pa_cons (pv 2) pa_nil)) (pg_tup (by rfl) (pgs_cons (pg_name (i := 3) sc_checked_finals.nd rfl (.inl rfl)) (pgs_cons (pg_name (i := 4) sc_checked_finals.nd rfl (.inl rfl)) pgs_nil))) (pss_one (ps_if (PW.pt (pw_and (pt_cmpR op_notN (pv 4) pe_non (nomark _)) (pw_and1 (pt_not (pt_val (pe_call (ok_is_word_up_to T) (hr.mono (by first | decide | exact Nat.le_refl _)) (by rfl) T.g_is_word_up_to T.F_is_word_up_to.kp T.b_is_word_up_to .nil pass0 (pa_cons (pv 0) (pa_cons (pv 4) (pa_cons (pe_glob (v := .int 400) (by rfl) T.c_MAX_WRITTEN ⟨_, rfl⟩) pa_nil))))))))) (pss_one ps_dead) pss_nil)))
      (pss_one (ps_ret (pe_callTy call_list_of (by rfl) T.z_list (by decide +kernel) (pa_cons (pv 2) pa_nil)))))), ?_⟩
    refine ⟨_, rfl, by show 2 ≤ sizeLine; decide, fun tp np => ?_⟩
    have k := same_new (o := .tup [.ty "list", .ty "tuple"]) np
    refine ⟨_, tp, _, .type "list", _, true, rfl, upd_same, .cons (.ty _) (.cons (.ty _) .nil), .base (.lst (k _ _ hF)), any_1st (kit_ty (by decide +kernel)), _, rfl, iteN rfl ?_⟩
    have hF1 := k _ _ hF
    have g1 := k.good good
    generalize upd H tp (.tup [.ty "list", .ty "tuple"]) = H1 at k hF1 g1 ⊢
    refine ⟨_, rfl, F, _, rfl, .inl (.inl (.inl hF1)), _, rfl, rfl, _, rfl, iteN (by rw [List.length_map, decide_eq_true rfl]; rfl) ?_⟩
    refine ⟨_, rfl, F, _, rfl, .inl (.inl hF1), ?_⟩
    refine for_enumLL (xs := fin.map finV) (fun i σ H' => (∃ y y', σ = [some (.str z), some (.int (fin.length : Int)), some (.ref F), y, y']) ∧ Same H1 H') ⟨⟨_, _, rfl⟩, .refl _⟩ (fun i σ H' h => .inl (.inl (h.2 _ _ hF1))) ?_ ?_
    · rintro i v σ H' X hv ⟨⟨y, y', rfl⟩, s2⟩ nX
      have kX := same_new (o := .tup [.int ((i : Nat) : Int), v]) nX
      have hX : (upd H' X (.tup [.int ((i : Nat) : Int), v])) X = some (.tup [.int ((i : Nat) : Int), v]) := upd_same
      generalize upd H' X (.tup [.int ((i : Nat) : Int), v]) = H2 at kX hX ⊢
      refine ⟨X, _, rfl, .inl (.inl hX), rfl, _, _, rfl, _, _, rfl, rfl, ?_⟩
      rw [List.getElem?_map] at hv
      obtain ⟨o, ho, rfl⟩ := Option.map_eq_some_iff.mp hv
      have mo := List.mem_of_getElem? ho
      have sm := s2.trans kX
      cases o with
      | none => exact ⟨_, rfl, rfl, _, rfl, iteN rfl ⟨⟨_, _, rfl⟩, sm⟩⟩
      | some x =>
        obtain ⟨ox, lx⟩ := ok x mo
        refine ⟨_, rfl, rfl, _, rfl, iteC rfl ?_⟩
        refine ⟨_, rfl, _, rfl, .str z, .str x, 400, rfl, shal_str al.small, shal_str (by omega), sm.good g1, fun b H3 hb s3 => ?_⟩
        rw [show b = true from hb.mpr ⟨z, x, rfl, rfl, al, ox, by omega⟩]
        exact ⟨_, rfl, iteN rfl ⟨⟨_, _, rfl⟩, sm.trans s3⟩⟩
    · rintro σ H' ⟨⟨y, y', rfl⟩, s2⟩
      refine ⟨_, rfl, F, _, rfl, .inl (.inl (.inl (s2 _ _ hF1))), fun N nN => ?_⟩
      have s12 := k.trans s2
      exact q N _ (s12.trans (same_new nN)) (s12.free nN) upd_same

def sp_checked_first [Tabl] (_ : PySem.W.Frag) : Sp := fun vs H Q _ => ∃ (z x : Str), vs = [.str z, .str x] ∧ IsAlpha z ∧ Over z x ∧ x.length ≤ 400 ∧ Good H ∧ ∀ H' : Hp, Same H H' → Q (.str x) H'
theorem ok_checked_first (T : Txt K mg base) : FnOk P w K mg base CX0 (3 + 1) T.f_checked_first T.fd_checked_first ["write", "first"] (sp_checked_first K) := by
  refine T.F_checked_first.ok sc_checked_first (fun vs H Q E h => ?_) (fun cdv A outer s H vs Q E hr h => ?_)
  · obtain ⟨z, x, rfl, _⟩ := h
    rfl
  · obtain ⟨z, x, rfl, al, ox, lx, good, q⟩ := h
    refine ⟨_, (pss_cons (ps_if (pt_not (pt_val (pe_call (ok_is_word_up_to T) (hr.mono (by first | decide | exact Nat.le_refl _)) (by rfl) T.g_is_word_up_to T.F_is_word_up_to.kp T.b_is_word_up_to .nil pass0 (pa_cons (pv 0) (pa_cons (pv 1) (pa_cons (pe_glob (v := .int 400) (by rfl) T.c_MAX_WRITTEN ⟨_, rfl⟩) pa_nil)))))) (pss_one ps_dead) pss_nil)
      (pss_one (ps_ret (pv 1)))), ?_⟩
    refine ⟨_, rfl, _, rfl, .str z, .str x, 400, rfl, shal_str al.small, shal_str (by omega), good, fun b H2 hb s2 => ?_⟩
    rw [show b = true from hb.mpr ⟨z, x, rfl, rfl, al, ox, by omega⟩]
    exact ⟨_, rfl, iteF ⟨_, rfl, q H2 s2⟩⟩

def sp_is_whole (_ : PySem.W.Frag) : Sp := fun vs H Q _ => ∃ v : V, vs = [v] ∧ Shal H v ∧ Q (.bl (isInt v)) H
theorem ok_is_whole (T : Txt K mg base) : FnOk P w K mg base CX0 (0 + 1) T.f_is_whole T.fd_is_whole ["value"] (sp_is_whole K) := by
  refine T.F_is_whole.ok sc_is_whole (fun vs H Q E h => ?_) (fun cdv A outer s H vs Q E hr h => ?_)
  · obtain ⟨i, rfl, _⟩ := h
    rfl
  · obtain ⟨v, rfl, sv, q⟩ := h
    refine ⟨_, (pss_one (ps_ret (pe_and (pe_callB call_isi (by rfl) T.z_isinstance (by decide +kernel) (pa_cons (pv 0) (pa_cons (pe_bltn (v := .ty "int") (by rfl) T.z_int (by decide +kernel) rfl) pa_nil))) (pe_one (pe_not (pe_callB call_isi (by rfl) T.z_isinstance (by decide +kernel) (pa_cons (pv 0) (pa_cons (pe_bltn (v := .ty "bool") (by rfl) T.z_bool (by decide +kernel) rfl) pa_nil)))))))), ?_⟩
    obtain ⟨t1, h1, k1⟩ := isi_int (K := K) sv
    obtain ⟨t2, h2, k2⟩ := isi_bool (K := K) sv
    refine ⟨_, rfl, _, _, _, _, _, rfl, .ty _, h1, k1, _, rfl, ?_⟩
    cases e : (isInt v || isBl v) with
    | false =>
      refine iteF ?_
      have : isInt v = false := by
        cases hv : isInt v <;> rw [hv] at e <;> first | rfl | cases e
      rw [this] at q
      exact q
    | true =>
      refine iteT ⟨_, rfl, _, _, _, _, _, rfl, .ty _, h2, k2, _, rfl, ?_⟩
      have : (!isBl v) = isInt v := by
        cases v <;> first | rfl | cases e
      rw [this]
      exact q

def sp_in_range (_ : PySem.W.Frag) : Sp := fun vs H Q _ => ∃ (v : V) (lo hi : Int), vs = [v, .int lo, .int hi] ∧ Shal H v ∧ Q (.bl (inR v lo hi)) H
theorem ok_in_range (T : Txt K mg base) : FnOk P w K mg base CX0 (1 + 1) T.f_in_range T.fd_in_range ["value", "low", "high"] (sp_in_range K) := by
  refine T.F_in_range.ok sc_in_range (fun vs H Q E h => ?_) (fun cdv A outer s H vs Q E hr h => ?_)
  · obtain ⟨v, lo, hi, rfl, _⟩ := h
    rfl
  · obtain ⟨v, lo, hi, rfl, sv, q⟩ := h
    refine ⟨_, (pss_one (ps_ret (pe_and (pe_call (ok_is_whole T) (hr.mono (by first | decide | exact Nat.le_refl _)) (by rfl) T.g_is_whole T.F_is_whole.kp T.b_is_whole .nil pass0 (pa_cons (pv 0) pa_nil)) (pe_one (pe_chain op_le op_le (pv 1) (pv 0) (pv 2)))))), ?_⟩
    refine ⟨_, rfl, v, rfl, sv, _, rfl, ?_⟩
    cases hv : isInt v with
    | false =>
      refine iteF ?_
      have : inR v lo hi = false := by
        cases v <;> first | rfl | cases hv
      rw [this] at q
      exact q
    | true =>
      obtain ⟨i, rfl⟩ := isInt_of hv
      refine iteT ?_
      refine ⟨_, rfl, _, rfl, _, _, rfl, rfl, _, rfl, ?_⟩
      by_cases h : lo ≤ i
      · rw [decide_eq_true h]
        refine iteT ⟨_, rfl, _, _, rfl, rfl, ?_⟩
        have : inR (.int i) lo hi = decide (i ≤ hi) := by
          show (decide (lo ≤ i) && decide (i ≤ hi)) = _
          rw [decide_eq_true h, Bool.true_and]
        rw [this] at q
        exact q
      · rw [decide_eq_false h]
        refine iteF ?_
        have : inR (.int i) lo hi = false := by
          show (decide (lo ≤ i) && decide (i ≤ hi)) = _
          rw [decide_eq_false h, Bool.false_and]
        rw [this] at q
        exact q

def sp_is_move [Tabl] (_ : PySem.W.Frag) : Sp := fun vs H Q _ => ∃ (t : Addr) (z x : Str) (q n : Int), vs = [.ref t, .str z, .int n] ∧ IsAlpha z ∧ H t = some (.tup [.str x, .int q]) ∧ Over z x ∧ x.length ≤ 400 ∧ 0 ≤ q ∧ q < n ∧ Good H ∧ ∀ H' : Hp, Same H H' → Q (.bl true) H'
theorem ok_is_move (T : Txt K mg base) : FnOk P w K mg base CX0 (3 + 1) T.f_is_move T.fd_is_move ["value", "write", "size"] (sp_is_move K) := by
  refine T.F_is_move.ok sc_is_move (fun vs H Q E h => ?_) (fun cdv A outer s H vs Q E hr h => ?_)
  · obtain ⟨t, z, x, q, n, rfl, _⟩ := h
    rfl
  · obtain ⟨t, z, x, q, n, rfl, al, ht, ox, lx, q0, q1, good, qq⟩ := h
    refine ⟨_, (pss_cons (ps_if (PW.pt (pw_or (pt_not (pt_val (pe_callB call_isi (by rfl) T.z_isinstance (by decide +kernel) (pa_cons (pv 0) (pa_cons (pe_bltn (v := .ty "tuple") (by rfl) T.z_tuple (by decide +kernel) rfl) pa_nil))))) (pw_or1 (pt_cmpR op_ne (pe_callB call_len_seq (by rfl) T.z_len PySem.boot_len (pa_cons (pv 0) pa_nil)) pe_int (nomark _))))) (pss_one (ps_ret pe_bl)) pss_nil)
      (pss_cons (ps_asg (pv 0) (pg_tup (by rfl) (pgs_cons (pg_name (i := 3) sc_is_move.nd rfl (.inl rfl)) (pgs_cons (pg_name (i := 4) sc_is_move.nd rfl (.inl rfl)) pgs_nil))))
      (pss_one (ps_ret (pe_and (pe_call (ok_is_word_up_to T) (hr.mono (by first | decide | exact Nat.le_refl _)) (by rfl) T.g_is_word_up_to T.F_is_word_up_to.kp T.b_is_word_up_to .nil pass0 (pa_cons (pv 1) (pa_cons (pv 3) (pa_cons (pe_glob (v := .int 400) (by rfl) T.c_MAX_WRITTEN ⟨_, rfl⟩) pa_nil)))) (pe_one (pe_call (ok_in_range T) (hr.mono (by first | decide | exact Nat.le_refl _)) (by rfl) T.g_in_range T.F_in_range.kp T.b_in_range .nil pass0 (pa_cons (pv 4) (pa_cons pe_int (pa_cons (pe_op op_sub (pv 2) pe_int) pa_nil)))))))))), ?_⟩
    refine ⟨_, rfl, _, _, _, _, true, rfl, .ty _, .base (.tup ht), kit_ty (by decide +kernel), _, rfl, iteN rfl ?_⟩
    refine ⟨_, rfl, t, _, rfl, .inr (.inl (.inl ht)), rfl, _, rfl, iteN rfl ?_⟩
    refine ⟨_, rfl, t, _, rfl, .inl (.inl ht), rfl, _, _, rfl, _, _, rfl, rfl, ?_⟩
    refine ⟨_, rfl, _, rfl, .str z, .str x, 400, rfl, shal_str al.small, shal_str (by omega), good, fun b H2 hb s2 => ?_⟩
    rw [show b = true from hb.mpr ⟨z, x, rfl, rfl, al, ox, by omega⟩]
    refine ⟨_, rfl, iteC rfl ⟨_, rfl, _, rfl, _, _, rfl, rfl, .int q, 0, n - 1, rfl, shal_int, ?_⟩⟩
    have : inR (.int q) 0 (n - 1) = true := by
      show (decide (0 ≤ q) && decide (q ≤ n - 1)) = true
      rw [decide_eq_true q0, decide_eq_true (by omega)]
      rfl
    rw [this]
    exact qq H2 s2

def sp_checked_rows [Tabl] (K : PySem.W.Frag) : Sp := fun vs H Q _ => ∃ (r z : Str) (M : Addr) (mv : Grid) (L : List Addr), vs = [.str r, .str z, .ref M] ∧ IsAlpha r ∧ IsAlpha z ∧ GridL L H M mv ∧ 1 ≤ mv.length ∧ mv.length ≤ 64 ∧ (∀ row ∈ mv, row.length = r.length) ∧ (∀ row ∈ mv, ∀ x q, some (x, q) ∈ row → Over z x ∧ x.length ≤ 400 ∧ 0 ≤ q ∧ q < (mv.length : Int)) ∧ Good H ∧ ∀ (N : Addr) (H' : Hp), Same H H' → GridN H H' N mv → Q (.ref N) H'
theorem ok_checked_rows (T : Txt K mg base) : FnOk P w K mg base CX0 (5 + 1) T.f_checked_rows T.fd_checked_rows ["read", "write", "moves"] (sp_checked_rows K) := by
  refine T.F_checked_rows.ok sc_checked_rows (fun vs H Q E h => ?_) (fun A outer s H vs Q E hr h => ?_)
  · obtain ⟨r, z, M, mv, L, rfl, _⟩ := h
    rfl
  · obtain ⟨r, z, M, mv, L, rfl, ar, az, ⟨nM, rows, hM, pr⟩, n1, n64, rl, ok, good, q⟩ := h
    refine ⟨_, (pss_cons (ps_if (PW.pt (pw_or (pt_not (pt_val (pe_callB call_isiT (by rfl) T.z_isinstance (by decide +kernel) (pa_cons (pv 2) (pa_cons (pe_tup (pa_cons (pe_bltn (v := .ty "list") (by rfl) T.z_list (by decide +kernel) rfl) (pa_cons (pe_bltn (v := .ty "tuple") (by rfl) T.z_tuple (by decide +kernel) rfl) pa_nil))) pa_nil))))) (pw_or1 (pt_cmpR op_eq (pe_callB call_len_seq (by rfl) T.z_len PySem.boot_len (pa_cons (pv 2) pa_nil)) pe_int (nomark _))))) (pss_one ps_dead) pss_nil)
      (pss_cons (ps_if (pt_cmpR op_gt (pe_callB call_len_seq (by rfl) T.z_len PySem.boot_len (pa_cons (pv 2) pa_nil)) (pe_glob (v := .int 64) (by rfl) T.c_MAX_STATES ⟨_, rfl⟩) (nomark _)) (pss_one ps_dead) pss_nil)
      (pss_cons (ps_for PassesOwn.never rfl (pi_enum (by rfl) T.z_enumerate (pa_cons (pv 2) pa_nil)) (pg_tup (by rfl) (pgs_cons (pg_name (i := 3) sc_checked_rows.nd rfl (.inl rfl)) (pgs_cons (pg_name (i := 4) sc_checked_rows.nd rfl (.inl rfl)) pgs_nil))) (pss_cons (ps_if (PW.pt (pw_or (pt_not (pt_val (pe_callB call_isiT (by rfl) T.z_isinstance (by decide +kernel) (pa_cons (pv 4) (pa_cons (pe_tup (pa_cons (pe_bltn (v := .ty "list") (by rfl) T.z_list (by decide +kernel) rfl) (pa_cons (pe_bltn (v := .ty "tuple") (by rfl) T.z_tuple (by decide +kernel) rfl) pa_nil))) pa_nil))))) (pw_or1 (pt_cmpR op_ne (pe_callB call_len_seq (by rfl) T.z_len PySem.boot_len (pa_cons (pv 4) pa_nil)) (pe_callB call_len_str (by rfl) T.z_len PySem.boot_len (pa_cons (pv 0) pa_nil)) (nomark _))))) (pss_one ps_dead) pss_nil)
      (pss_one (ps_if (pt_not (pt_val (GQ.pe_allB (own := [("move", 5)]) (g := (gName 5)) (k := 4) (hr.mono (by first | decide | exact Nat.le_refl _)) rfl T.z_all sc_checked_rows.nd T.B_checked_rows T.m_checked_rows rfl (blkOk_by (N := ["read", "write", "moves", "index", "row", "move"]) (sc := defScope s_checked_rows) (by decide +kernel)) (by decide +kernel) (pi_list (pv 4)) (fun _ _ _ _ _ _ _ => pg_name (i := 5) sc_checked_rows.nd rfl (Or.inl rfl)) (fun _ _ _ _ _ _ _ hr => pts_nil) (fun _ _ _ _ _ _ _ hr => (pe_or (pe_cmpR op_isN (pv 5) pe_non (nomark _)) (pe_one (pe_call (ok_is_move T) (hr.mono (by first | decide | exact Nat.le_refl _)) (by rfl) T.g_is_move T.F_is_move.kp T.b_is_move .nil pass0 (pa_cons (pv 5) (pa_cons (pv 1) (pa_cons (pe_callB (call_len_seqK K rfl) (by rfl) T.z_len PySem.boot_len (pa_cons (pv 2) pa_nil)) pa_nil)))))))))) (pss_one ps_dead) pss_nil))))
      (pss_one (ps_ret (pe_lc (own := [("row", 4)]) (g := gName 4) rfl sc_checked_rows.nd (pi_list (pv 2)) (blkOk_by (N := ["read", "write", "moves", "index", "row", "move"]) (sc := defScope s_checked_rows) (by decide +kernel)) (fun _ _ _ _ _ => pg_name (i := 4) sc_checked_rows.nd rfl (Or.inl rfl)) (fun _ _ _ _ _ => pts_nil) (fun _ _ _ _ _ => (pe_callTy (call_list_ofK K rfl) (by rfl) T.z_list (by decide +kernel) (pa_cons (pv 4) pa_nil))))))))), ?_⟩
    refine ⟨_, rfl, by show 2 ≤ sizeLine; decide, fun tp np => ?_⟩
    have k := same_new (o := .tup [.ty "list", .ty "tuple"]) np
    refine ⟨_, tp, _, .type "list", _, true, rfl, upd_same, .cons (.ty _) (.cons (.ty _) .nil), .base (.lst (k _ _ hM)), any_1st (kit_ty (by decide +kernel)), _, rfl, iteN rfl ?_⟩
    have lr : rows.length = mv.length := pr.length
    have hM1 := k _ _ hM
    have g1 := k.good good
    have pr1 : Paired (RowL L (upd H tp (.tup [.ty "list", .ty "tuple"]))) rows mv := Paired.mapP pr fun _ _ q => q.same k
    generalize upd H tp (.tup [.ty "list", .ty "tuple"]) = H1 at k hM1 g1 pr1 ⊢
    refine ⟨_, rfl, M, _, rfl, .inl (.inl (.inl hM1)), rfl, _, rfl, iteN (decide_eq_false (fun e => by have := V.int.inj e; omega)) ?_⟩
    refine ⟨_, rfl, M, _, rfl, .inl (.inl (.inl hM1)), _, _, rfl, rfl, _, rfl, iteN (decide_eq_false (by omega)) ?_⟩
    refine ⟨_, rfl, M, _, rfl, .inl (.inl hM1), ?_⟩
    refine for_enumLL (xs := rows) (fun i σ H' => (∃ y y' y'', σ = [some (.str r), some (.str z), some (.ref M), y, y', y'']) ∧ Same H1 H') ⟨⟨_, _, _, rfl⟩, .refl _⟩ (fun i σ H' h => .inl (.inl (h.2 _ _ hM1))) ?_ ?_
    · rintro i v σ H' X hv ⟨⟨y, y', y'', rfl⟩, s2⟩ nX
      have kX := same_new (o := .tup [.int ((i : Nat) : Int), v]) nX
      have hX : (upd H' X (.tup [.int ((i : Nat) : Int), v])) X = some (.tup [.int ((i : Nat) : Int), v]) := upd_same
      generalize upd H' X (.tup [.int ((i : Nat) : Int), v]) = H2 at kX hX ⊢
      refine ⟨X, _, rfl, .inl (.inl hX), rfl, _, _, rfl, _, _, rfl, rfl, ?_⟩
      obtain ⟨row, hrow, p, xs, rfl, _, hp, st⟩ := paired_get pr1 hv
      have mrow := List.mem_of_getElem? hrow
      have sm := s2.trans kX
      have hp2 := sm _ _ hp
      have hM2 := sm _ _ hM1
      have lx : xs.length = r.length := st.length.trans (rl row mrow)
      have st2 : Paired (StpAt H2) xs row := stps_keep st fun t zs e => sm _ _ e
      refine ⟨_, rfl, by show 2 ≤ sizeLine; decide, fun tp np => ?_⟩
      have k3 := same_new (o := .tup [.ty "list", .ty "tuple"]) np
      refine ⟨_, tp, _, .type "list", _, true, rfl, upd_same, .cons (.ty _) (.cons (.ty _) .nil), .base (.lst (k3 _ _ hp2)), any_1st (kit_ty (by decide +kernel)), _, rfl, iteN rfl ?_⟩
      have hp3 := k3 _ _ hp2
      have hM3 := k3 _ _ hM2
      have sm3 := sm.trans k3
      generalize upd H2 tp (.tup [.ty "list", .ty "tuple"]) = H3 at k3 hp3 hM3 sm3 ⊢
      have st3 : Paired (StpAt H3) xs row := stps_keep st2 fun t zs e => k3 _ _ e
      refine ⟨_, rfl, p, xs, rfl, .inl (.inl (.inl hp3)), _, rfl, r, rfl, small_text ar.small, rfl, _, rfl, iteN (by rw [lx, decide_eq_true rfl]; rfl) ?_⟩
      have g3 := sm3.good g1
      refine ⟨_, rfl, p, rfl, ⟨_, .inl (.inl hp3)⟩, g3, fun H4 s4 => ?_⟩
      refine GQ.turns_list (xs := xs) (fun _ H' => Same H3 H') s4 (fun _ H' s => .inl (.inl (s _ _ hp3))) ?_ fun H5 s5 => ⟨_, rfl, iteN rfl ⟨⟨_, _, _, rfl⟩, sm3.trans s5⟩⟩
      rintro j v H5 hv s5
      obtain ⟨m, hm, sa⟩ := paired_get st3 hv
      have mm := List.mem_of_getElem? hm
      cases m with
      | none =>
        obtain rfl : v = .non := sa
        exact ⟨rfl, _, rfl, rfl, _, rfl, iteC rfl ⟨true, rfl, (fun e => by cases e), fun _ => s5⟩⟩
      | some m =>
        obtain ⟨x, t⟩ := m
        obtain ⟨a, rfl, ha⟩ := sa
        obtain ⟨ox, lx, q0, q1⟩ := ok row mrow x t mm
        refine ⟨rfl, _, rfl, rfl, _, rfl, iteN rfl ?_⟩
        refine ⟨_, rfl, _, rfl, _, rfl, M, _, rfl, .inl (.inl (.inl (s5 _ _ hM3))), a, z, x, t, (rows.length : Int), rfl, az, s5 _ _ ha, ox, lx, q0, by omega, s5.good g3, fun H6 s6 => ⟨true, rfl, (fun e => by cases e), fun _ => s5.trans s6⟩⟩
    · rintro σ H' ⟨⟨y, y', y'', rfl⟩, s2⟩
      have s12 := k.trans s2
      refine ⟨_, rfl, ⟨_, rfl, ⟨_, .inl (.inl (s2 _ _ hM1))⟩, fun D nD => ?_⟩⟩
      refine lc_copy (L := L) nD (s2 _ _ hM1) (Paired.mapP pr1 fun _ _ q => q.same s2) (by omega) (fun p xs Hg k N hp hk => ⟨rfl, _, rfl, p, xs, rfl, .inl (.inl (.inl hp)), hk⟩) fun Hg sg gn => q D Hg (s12.trans sg) (gn.from s12)

def sp_Reader___init__ [Tabl] (C : Addr) (K : PySem.W.Frag) : Sp := fun vs H Q _ => ∃ (m dx : Addr) (r z f : Str) (M F : Addr) (mv : Grid) (fin : List (Option Str)) (L : List Addr), vs = [.ref m, .str r, .str z, .str f, .ref M, .ref F] ∧ H m = some (.ins C dx []) ∧ Good H ∧ GoodR r z f mv fin ∧ GridL L H M mv ∧ H F = some (.lst (fin.map finV)) ∧
  ∀ (M' F' : Addr) (H' : Hp), But m H H' → H' m = some (.ins C dx (rfs r z f M' F')) → GridN H H' M' mv → H F' = none → H' F' = some (.lst (fin.map finV)) → Q .non H'
theorem ok_Reader___init__ (T : Txt K mg base) : FnOk P w K mg base CX0 (6 + 1) T.f_Reader___init__ T.fd_Reader___init__ ["self", "read", "write", "first", "moves", "finals"] (sp_Reader___init__ T.C_Reader K) := by
  refine T.F_Reader___init__.ok sc_Reader___init__ (fun vs H Q E h => ?_) (fun cdv A outer s H vs Q E hr h => ?_)
  · obtain ⟨m, dx, r, z, f, M, F, mv, fin, L, rfl, _⟩ := h
    rfl
  · obtain ⟨m, dx, r, z, f, M, F, mv, fin, L, rfl, hm, good, g, gr, hF, q⟩ := h
    refine ⟨_, (pss_cons (ps_fld (pv 0) (pe_call (ok_check_letters T).calm (hr.mono (by first | decide | exact Nat.le_refl _)) (by rfl) T.g_check_letters T.F_check_letters.kp T.b_check_letters .nil pass0 (pa_cons (pv 1) pa_nil)) rfl)
      (pss_cons (ps_fld (pv 0) (pe_call (ok_check_letters T).calm (hr.mono (by first | decide | exact Nat.le_refl _)) (by rfl) T.g_check_letters T.F_check_letters.kp T.b_check_letters .nil pass0 (pa_cons (pv 2) pa_nil)) rfl)
      (pss_cons (ps_fld (pv 0) (pe_call (ok_checked_first T) (hr.mono (by first | decide | exact Nat.le_refl _)) (by rfl) T.g_checked_first T.F_checked_first.kp T.b_checked_first .nil pass0 (pa_cons (pv 2) (pa_cons (pv 3) pa_nil))) rfl)
      (pss_cons (ps_fld (pv 0) (pe_call (ok_checked_rows T) (hr.mono (by first | decide | exact Nat.le_refl _)) (by rfl) T.g_checked_rows T.F_checked_rows.kp T.b_checked_rows .nil pass0 (pa_cons (pv 1) (pa_cons (pv 2) (pa_cons (pv 4) pa_nil)))) rfl)
      (pss_one (ps_fld (pv 0) (pe_call (ok_checked_finals T) (hr.mono (by first | decide | exact Nat.le_refl _)) (by rfl) T.g_checked_finals T.F_checked_finals.kp T.b_checked_finals .nil pass0 (pa_cons (pv 2) (pa_cons (pe_callB call_len_seq (by rfl) T.z_len PySem.boot_len (pa_cons (pe_fld (pv 0) rfl) pa_nil)) (pa_cons (pv 5) pa_nil)))) rfl)))))), ?_⟩
    have ar := g.ar
    have az := g.az
    refine ⟨_, rfl, .str r, rfl, shal_str (Nat.le_trans ar.len4 (by decide)), good, fun _ H1 s1 => ⟨_, rfl, m, _, dx, _, rfl, s1 _ _ hm, T.cl_Reader, T.no_Reader__read, by show 0 < 1000; decide, ?_⟩, fun no => (no ⟨_, rfl, ar⟩).elim⟩
    have B1 : But m H (upd H1 m (.ins T.C_Reader dx (putF "_read" (.str r) []))) := (But.same s1).trans (But.put (s1 _ _ hm))
    have h1 : (upd H1 m (.ins T.C_Reader dx (putF "_read" (.str r) []))) m = some (.ins T.C_Reader dx (putF "_read" (.str r) [])) := upd_same
    generalize upd H1 m (.ins T.C_Reader dx (putF "_read" (.str r) [])) = G1 at B1 h1 ⊢
    refine ⟨_, rfl, .str z, rfl, shal_str (Nat.le_trans az.len4 (by decide)), B1.good good, fun _ H2 s2 => ⟨_, rfl, m, _, dx, _, rfl, s2 _ _ h1, T.cl_Reader, T.no_Reader__write, Nat.lt_of_le_of_lt (lenF (k := 0) (Nat.le_refl _)) (by decide), ?_⟩, fun no => (no ⟨_, rfl, az⟩).elim⟩
    have B2 := B1.trans ((But.same s2).trans (But.put (o := .ins T.C_Reader dx (putF "_write" (.str z) (putF "_read" (.str r) []))) (s2 _ _ h1)))
    have h2 : (upd H2 m (.ins T.C_Reader dx (putF "_write" (.str z) (putF "_read" (.str r) [])))) m = some (.ins T.C_Reader dx (putF "_write" (.str z) (putF "_read" (.str r) []))) := upd_same
    generalize upd H2 m (.ins T.C_Reader dx (putF "_write" (.str z) (putF "_read" (.str r) []))) = G2 at B2 h2 ⊢
    refine ⟨_, rfl, _, rfl, z, f, rfl, az, g.ov, g.lf, B2.good good, fun H3 s3 => ⟨_, rfl, m, _, dx, _, rfl, s3 _ _ h2, T.cl_Reader, T.no_Reader__first, Nat.lt_of_le_of_lt (lenF (k := 1) (lenF (k := 0) (Nat.le_refl _))) (by decide), ?_⟩⟩
    have B3 := B2.trans ((But.same s3).trans (But.put (o := .ins T.C_Reader dx (putF "_first" (.str f) (putF "_write" (.str z) (putF "_read" (.str r) [])))) (s3 _ _ h2)))
    have h3 : (upd H3 m (.ins T.C_Reader dx (putF "_first" (.str f) (putF "_write" (.str z) (putF "_read" (.str r) []))))) m = some (.ins T.C_Reader dx (putF "_first" (.str f) (putF "_write" (.str z) (putF "_read" (.str r) [])))) := upd_same
    generalize upd H3 m (.ins T.C_Reader dx (putF "_first" (.str f) (putF "_write" (.str z) (putF "_read" (.str r) [])))) = G3 at B3 h3 ⊢
    -- the moves
    refine ⟨_, rfl, _, rfl, _, rfl, r, z, M, mv, L, rfl, ar, az, gr.ins B3 hm, g.n1, g.n64, g.row, g.stp, B3.good good, fun M' H4 s4 gn => ⟨_, rfl, m, _, dx, _, rfl, s4 _ _ h3, T.cl_Reader, T.no_Reader__moves, Nat.lt_of_le_of_lt (lenF (k := 2) (lenF (k := 1) (lenF (k := 0) (Nat.le_refl _)))) (by decide), ?_⟩⟩
    have h3' := s4 _ _ h3
    have P4 : But m H4 (upd H4 m (.ins T.C_Reader dx (putF "_moves" (.ref M') (putF "_first" (.str f) (putF "_write" (.str z) (putF "_read" (.str r) [])))))) := But.put h3'
    have gn4 := gn.but P4 h3'
    have B4 := B3.trans ((But.same s4).trans P4)
    have h4 : (upd H4 m (.ins T.C_Reader dx (putF "_moves" (.ref M') (putF "_first" (.str f) (putF "_write" (.str z) (putF "_read" (.str r) [])))))) m = some (.ins T.C_Reader dx (putF "_moves" (.ref M') (putF "_first" (.str f) (putF "_write" (.str z) (putF "_read" (.str r) []))))) := upd_same
    generalize upd H4 m (.ins T.C_Reader dx (putF "_moves" (.ref M') (putF "_first" (.str f) (putF "_write" (.str z) (putF "_read" (.str r) []))))) = G4 at B4 h4 gn4 P4 ⊢
    -- the finals
    obtain ⟨rows, hM', lr⟩ := gn4.len
    have lk : List.lookup ("_moves" : Str) (putF "_moves" (.ref M') (putF "_first" (.str f) (putF "_write" (.str z) (putF "_read" (.str r) [])))) = some (.ref M') := by rw [lookup_putF, if_pos rfl]
    refine ⟨_, rfl, _, rfl, m, _, dx, _, _, rfl, h4, T.cl_Reader, T.no_Reader__moves, lk, M', rows, rfl, .inl (.inl (.inl hM')), _, rfl, z, F, fin, ?_, az, B4 _ _ (fun e => by rw [e, hm] at hF; cases hF) hF, by rw [g.lfin]; exact g.n64, g.fin, B4.good good, fun F' H5 s5 nF' hF' => ⟨_, rfl, m, _, dx, _, rfl, s5 _ _ h4, T.cl_Reader, T.no_Reader__finals, Nat.lt_of_le_of_lt (lenF (k := 3) (lenF (k := 2) (lenF (k := 1) (lenF (k := 0) (Nat.le_refl _))))) (by decide), ?_⟩⟩
    · rw [lr, g.lfin]
      rfl
    have h4' := s5 _ _ h4
    have P5 : But m H5 (upd H5 m (.ins T.C_Reader dx (rfs r z f M' F'))) := But.put h4'
    have B5 := B4.trans ((But.same s5).trans P5)
    have ne3 : ∀ p, G3 p = none → p ≠ m := fun p e z => by rw [z, h3] at e; cases e
    have nFm : F' ≠ m := fun e => by rw [e, h4] at nF'; cases nF'
    refine q M' F' _ B5 upd_same (((gn4.same s5).but P5 h4').since B3 ne3) (B4.free nF' nFm) ?_
    rw [upd_ne nFm]
    exact hF'

def sp_reader_of [Tabl] (C : Addr) (K : PySem.W.Frag) : Sp := fun vs H Q _ => ∃ (p : Addr) (r z f : Str) (M F : Addr) (mv : Grid) (fin : List (Option Str)) (L : List Addr), vs = [.ref p] ∧ RP L H p r z f mv fin M F ∧ GoodR r z f mv fin ∧ Good H ∧
  ∀ (m dx M' F' : Addr) (H' : Hp), Same H H' → H m = none → H' m = some (.ins C dx (rfs r z f M' F')) → GridN H H' M' mv → H F' = none → H' F' = some (.lst (fin.map finV)) → Q (.ref m) H'
theorem ok_reader_of (T : Txt K mg base) : FnOk P w K mg base CX0 (8 + 1) T.f_reader_of T.fd_reader_of ["parts"] (sp_reader_of T.C_Reader K) := by
  refine T.F_reader_of.ok sc_reader_of (fun vs H Q E h => ?_) (fun cdv A outer s H vs Q E hr h => ?_)
  · obtain ⟨p, r, z, f, M, F, mv, fin, L, rfl, _⟩ := h
    rfl
  · obtain ⟨p, r, z, f, M, F, mv, fin, L, rfl, D, g, good, q⟩ := h
    refine ⟨_, (pss_one (ps_ret (pe_make T.M_Reader (ok_Reader___init__ T) (hr.mono (by first | decide | exact Nat.le_refl _)) (by rfl) T.mg_Reader T.kb_Reader_0 T.kr_Reader_0 pass0 (pa_cons (pe_ix ix_tup (pv 0) pe_int (fun _ _ => rfl)) (pa_cons (pe_ix ix_tup (pv 0) pe_int (fun _ _ => rfl)) (pa_cons (pe_ix ix_tup (pv 0) pe_int (fun _ _ => rfl)) (pa_cons (pe_lc (own := [("row", 1)]) (g := gName 1) rfl sc_reader_of.nd (pi_list (pe_ix ix_tup (pv 0) pe_int (fun _ _ => rfl))) (blkOk_by (N := ["parts", "row"]) (sc := defScope s_reader_of) (by decide +kernel)) (fun _ _ _ _ _ => pg_name (i := 1) sc_reader_of.nd rfl (Or.inl rfl)) (fun _ _ _ _ _ => pts_nil) (fun _ _ _ _ _ => (pe_callTy (call_list_ofK K rfl) (by rfl) T.z_list (by decide +kernel) (pa_cons (pv 1) pa_nil)))) (pa_cons (pe_callTy call_list_of (by rfl) T.z_list (by decide +kernel) (pa_cons (pe_ix ix_tup (pv 0) pe_int (fun _ _ => rfl)) pa_nil)) pa_nil)))))))), ?_⟩
    obtain ⟨nM, rows, hM, pr⟩ := D.gr
    refine ⟨_, rfl, _, _, _, _, rfl, rfl, .inl (.inl D.hp), rfl, _, rfl, _, _, _, _, rfl, rfl, .inl (.inl D.hp), rfl, _, rfl, _, _, _, _, rfl, rfl, .inl (.inl D.hp), rfl, ?_⟩
    refine ⟨_, rfl, _, _, _, _, rfl, rfl, .inl (.inl D.hp), rfl, M, rfl, ⟨_, .inl (.inl hM)⟩, fun N nN => ?_⟩
    refine lc_copy (L := L) nN hM pr (by have := g.n64; omega) (fun p xs Hg k N hp hk => ⟨rfl, _, rfl, p, xs, rfl, .inl (.inl (.inl hp)), hk⟩) fun H1 s1 gn => ?_
    have D1 := D.same s1
    refine ⟨_, rfl, _, _, _, _, rfl, rfl, .inl (.inl D1.hp), rfl, F, _, rfl, .inl (.inl (.inl D1.hf)), fun G nG => ?_⟩
    have k2 := same_new (o := .lst (fin.map finV)) nG
    have hG : (upd H1 G (.lst (fin.map finV))) G = some (.lst (fin.map finV)) := upd_same
    have nGH := s1.free nG
    generalize upd H1 G (.lst (fin.map finV)) = H2 at k2 hG ⊢
    have s2 := s1.trans k2
    have gn2 := gn.same k2
    refine fun m dy nm nd ne => ?_
    have t1 := same_new (o := .own m) nd
    have nm' : (upd H2 dy (.own m)) m = none := by
      rw [upd_ne (Ne.symm ne)]
      exact nm
    have t4 := t1.trans (same_new (o := .ins T.C_Reader dy []) nm')
    have s4 := s2.trans t4
    refine ⟨m, dy, r, z, f, N, G, mv, fin, [], rfl, upd_same, s4.good good, g, (gn2.same t4).grid (fun c m => absurd m List.not_mem_nil), t4 _ _ hG, fun M' F' H' B hm' gn' nF' hF' => ⟨rfl, ?_⟩⟩
    exact q m dy M' F' H' (s2.trans (But.made nm nd ne B)) (s2.free nm) hm' (gn'.from s4) (s4.free nF') hF'

def sp_Reader_write (C : Addr) (_ : PySem.W.Frag) : Sp := fun vs H Q _ => ∃ (a dx : Addr) (fs : List (Str × V)) (v : V), vs = [.ref a] ∧ H a = some (.ins C dx fs) ∧ fs.lookup ("_write" : Str) = some v ∧ Q v H
theorem ok_Reader_write (T : Txt K mg base) : FnOk P w K mg base CX0 (0 + 1) T.f_Reader_write T.fd_Reader_write ["self"] (sp_Reader_write T.C_Reader K) := by
  refine T.F_Reader_write.ok sc_Reader_write (fun vs H Q E h => ?_) (fun cdv A outer s H vs Q E hr h => ?_)
  · obtain ⟨a, dx, fs, v, rfl, _⟩ := h
    rfl
  · obtain ⟨a, dx, fs, v, rfl, ha, l, q⟩ := h
    refine ⟨_, (pss_one (ps_ret (pe_fld (pv 0) rfl))), ?_⟩
    exact ⟨_, rfl, a, _, dx, fs, v, rfl, ha, T.cl_Reader, T.no_Reader__write, l, q⟩

def sp_reader_parts_of [Tabl] (C : Addr) (K : PySem.W.Frag) : Sp := fun vs H Q _ => ∃ (m dx M F : Addr) (r z f : Str) (mv : Grid) (fin : List (Option Str)) (L : List Addr), vs = [.ref m] ∧ RA C L H m r z f mv fin dx M F ∧ mv.length ≤ 64 ∧
  ∀ (p M' F' : Addr) (H' : Hp), Same H H' → H p = none → H' p = some (.tup [.str r, .str z, .str f, .ref M', .ref F']) → GridN H H' M' mv → H F' = none → H' F' = some (.lst (fin.map finV)) → Q (.ref p) H'
theorem ok_reader_parts_of (T : Txt K mg base) : FnOk P w K mg base CX0 (2 + 1) T.f_reader_parts_of T.fd_reader_parts_of ["reader"] (sp_reader_parts_of T.C_Reader K) := by
  refine T.F_reader_parts_of.ok sc_reader_parts_of (fun vs H Q E h => ?_) (fun cdv A outer s H vs Q E hr h => ?_)
  · obtain ⟨m, dx, M, F, r, z, f, mv, fin, L, rfl, _⟩ := h
    rfl
  · obtain ⟨m, dx, M, F, r, z, f, mv, fin, L, rfl, D, l64, q⟩ := h
    refine ⟨_, (pss_one (ps_ret (pe_tup (pa_cons (pe_prop (pv 0) T.cl_Reader T.p_Reader_read (ok_Reader_read T) (hr.mono (by first | decide | exact Nat.le_refl _)) T.b_Reader_read .nil pass0 rfl) (pa_cons (pe_prop (pv 0) T.cl_Reader T.p_Reader_write (ok_Reader_write T) (hr.mono (by first | decide | exact Nat.le_refl _)) T.b_Reader_write .nil pass0 rfl) (pa_cons (pe_prop (pv 0) T.cl_Reader T.p_Reader_first (ok_Reader_first T) (hr.mono (by first | decide | exact Nat.le_refl _)) T.b_Reader_first .nil pass0 rfl) (pa_cons (pe_prop (pv 0) T.cl_Reader T.p_Reader_moves (ok_Reader_moves T) (hr.mono (by first | decide | exact Nat.le_refl _)) T.b_Reader_moves .nil pass0 rfl) (pa_cons (pe_prop (pv 0) T.cl_Reader T.p_Reader_finals (ok_Reader_finals T) (hr.mono (by first | decide | exact Nat.le_refl _)) T.b_Reader_finals .nil pass0 rfl) pa_nil)))))))), ?_⟩
    refine ⟨_, rfl, m, dx, _, rfl, D.ins, m, dx, _, _, rfl, D.ins, rfs_read, ?_⟩
    refine ⟨_, rfl, m, dx, _, rfl, D.ins, m, dx, _, _, rfl, D.ins, rfs_write, ?_⟩
    refine ⟨_, rfl, m, dx, _, rfl, D.ins, m, dx, _, _, rfl, D.ins, rfs_first, ?_⟩
    refine ⟨_, rfl, m, dx, _, rfl, D.ins, m, dx, _, M, mv, L, rfl, D.ins, rfs_moves, D.gr, l64, fun N H1 s1 gn => ?_⟩
    have D1 := D.same s1
    refine ⟨_, rfl, m, dx, _, rfl, D1.ins, m, dx, _, F, _, rfl, D1.ins, rfs_finals, D1.hf, fun G nG => ?_⟩
    have k2 := same_new (o := .lst (fin.map finV)) nG
    have hG : (upd H1 G (.lst (fin.map finV))) G = some (.lst (fin.map finV)) := upd_same
    have nGH := s1.free nG
    generalize upd H1 G (.lst (fin.map finV)) = H2 at k2 hG ⊢
    refine ⟨by show 5 ≤ sizeLine; decide, fun p np => ?_⟩
    have k3 := same_new (o := .tup [.str r, .str z, .str f, .ref N, .ref G]) np
    have s2 := s1.trans k2
    exact q p N G _ (s2.trans k3) (s2.free np) upd_same ((gn.same k2).same k3) nGH (k3 _ _ hG)

def sp_act [Tabl] (K : PySem.W.Frag) : Sp := fun vs H Q _ => ∃ (p pa dt : Addr) (d : Deed) (r z f : Str) (mv : Grid) (fin : List (Option Str)) (M0 F0 : Addr) (zs : List V) (ts : List (Nat × Str × Nat)) (ps : List (Nat × Str)) (qs : List Nat) (q : Nat) (c : Bool) (L : List Addr), vs = [.ref p, .ref pa, .bl c, .ref dt] ∧ RP L H p r z f mv fin M0 F0 ∧ GoodR r z f mv fin ∧ H dt = some (.tup (deedV d)) ∧ (∀ v, d = .push v → Shal H v) ∧ H pa = some (.lst zs) ∧ EntL p3V H zs ts ∧ Pth (cs r) mv ts ps qs q ∧ ps.length ≤ 8000 ∧
  ∀ ys ps' qs' q' c' ts', Does (cs r) mv fin ps qs q c d ys ps' qs' q' c' → Pth (cs r) mv ts' ps' qs' q' → ∀ (t1 t pa' : Addr) (zs' : List V) (H' : Hp), Same H H' → H' t1 = some (.tup ys) → (pa' = pa ∨ H pa' = none) → H' pa' = some (.lst zs') → EntL p3V H' zs' ts' → H' t = some (.tup [.ref t1, .ref pa', .bl c']) → Q (.ref t) H'
theorem ok_act (T : Txt K mg base) : FnOk P w K mg base CX0 (0 + 1) T.f_act T.fd_act ["parts", "path", "shut", "deed"] (sp_act K) := by
  refine T.F_act.ok sc_act (fun vs H Q E h => ?_) (fun cdv A outer st H vs Q E hr h => ?_)
  · obtain ⟨p, pa, dt, d, r, z, f, mv, fin, M0, F0, zs, ts, ps, qs, q, c, L, rfl, _⟩ := h
    rfl
  · obtain ⟨p, pa, dt, d, r, z, f, mv, fin, M0, F0, zs, ts, ps, qs, q, c, L, rfl, D, g, hd, sv, hpa, en, pt, lp, k⟩ := h
    refine ⟨_, (pss_cons (ps_set (i := 4) sc_act.nd rfl (.inl rfl) pe_int)
      (C8.pss_cut (ps_if (pt_truth (pv 1) (by intro _; rfl)) (pss_one (ps_set (i := 4) sc_act.nd rfl (.inl rfl) (pe_ix ix_tup (pe_ix ix_list (pv 1) (pe_un un_neg pe_int) (fun _ _ => rfl)) pe_int (fun _ _ => rfl)))) pss_nil)
      (pss_cons (ps_if (pt_cmpR op_eq (pe_ix ix_tup (pv 3) pe_int (fun _ _ => rfl)) pe_str (nomark _)) (pss_cons (ps_set (i := 5) sc_act.nd rfl (.inl rfl) (pe_ix ix_tup (pv 3) pe_int (fun _ _ => rfl)))
      (pss_cons (ps_if (PW.pt (pw_or (pt_not (pt_val (pe_callB call_isi (by rfl) T.z_isinstance (by decide +kernel) (pa_cons (pv 5) (pa_cons (pe_bltn (v := .ty "str") (by rfl) T.z_str (by decide +kernel) rfl) pa_nil))))) (pw_or (pt_cmpR op_ne (pe_callB call_len_str (by rfl) T.z_len PySem.boot_len (pa_cons (pv 5) pa_nil)) pe_int (nomark _)) (pw_or1 (pt_cmpR op_notIn_sign (pv 5) (pe_ix ix_tup (pv 0) pe_int (fun _ _ => rfl)) rfl))))) (pss_one (ps_ret (pe_tup (pa_cons (pe_tup (pa_cons pe_str (pa_cons (pv 5) pa_nil))) (pa_cons (pv 1) (pa_cons (pv 2) pa_nil)))))) pss_nil)
      (pss_cons (ps_if (pt_val (pv 2)) (pss_one (ps_ret (pe_tup (pa_cons (pe_tup (pa_cons pe_str pa_nil)) (pa_cons (pv 1) (pa_cons (pv 2) pa_nil)))))) pss_nil)
      (pss_cons (ps_set (i := 6) sc_act.nd rfl (.inl rfl) (pe_ix ix_list (pe_ix ix_list (pe_ix ix_tup (pv 0) pe_int (fun _ _ => rfl)) (pv 4) (fun _ _ => rfl)) (pe_m1 PySem.F.slot_str_index PySem.F.type_str_index mt_sindex (pe_ix ix_tup (pv 0) pe_int (fun _ _ => rfl)) (pv 5)) (fun _ _ => rfl)))
      (pss_cons (ps_if (pt_cmpR op_isN (pv 6) pe_non (nomark _)) (pss_one (ps_ret (pe_tup (pa_cons (pe_tup (pa_cons pe_str (pa_cons (pv 5) pa_nil))) (pa_cons (pv 1) (pa_cons (pv 2) pa_nil)))))) pss_nil)
      (pss_one (ps_ret (pe_tup (pa_cons (pe_tup (pa_cons pe_str (pa_cons (pe_ix ix_tup (pv 6) pe_int (fun _ _ => rfl)) pa_nil))) (pa_cons (pe_op op_cat (pv 1) (pe_lst (pa_cons (pe_tup (pa_cons (pv 5) (pa_cons (pe_ix ix_tup (pv 6) pe_int (fun _ _ => rfl)) (pa_cons (pe_ix ix_tup (pv 6) pe_int (fun _ _ => rfl)) pa_nil)))) pa_nil))) (pa_cons (pv 2) pa_nil))))))))))) pss_nil)
      (pss_cons (ps_if (pt_cmpR op_eq (pe_ix ix_tup (pv 3) pe_int (fun _ _ => rfl)) pe_str (nomark _)) (pss_cons (ps_if (pt_val (pv 2)) (pss_one (ps_ret (pe_tup (pa_cons (pe_tup (pa_cons pe_str pa_nil)) (pa_cons (pv 1) (pa_cons (pv 2) pa_nil)))))) pss_nil)
      (pss_cons (ps_if (pt_cmpR op_isN (pe_ix ix_list (pe_ix ix_tup (pv 0) pe_int (fun _ _ => rfl)) (pv 4) (fun _ _ => rfl)) pe_non (nomark _)) (pss_one (ps_ret (pe_tup (pa_cons (pe_tup (pa_cons pe_str pa_nil)) (pa_cons (pv 1) (pa_cons (pv 2) pa_nil)))))) pss_nil)
      (pss_one (ps_ret (pe_tup (pa_cons (pe_tup (pa_cons pe_str (pa_cons (pe_ix ix_list (pe_ix ix_tup (pv 0) pe_int (fun _ _ => rfl)) (pv 4) (fun _ _ => rfl)) pa_nil))) (pa_cons (pv 1) (pa_cons pe_bl pa_nil)))))))) pss_nil)
      (pss_cons (ps_if (pt_val (pv 2)) (pss_one (ps_ret (pe_tup (pa_cons (pe_tup (pa_cons pe_str (pa_cons pe_str pa_nil))) (pa_cons (pv 1) (pa_cons pe_bl pa_nil)))))) pss_nil)
      (pss_cons (ps_if (pt_not (pt_truth (pv 1) (by intro _; rfl))) (pss_one (ps_ret (pe_tup (pa_cons (pe_tup (pa_cons pe_str pa_nil)) (pa_cons (pv 1) (pa_cons (pv 2) pa_nil)))))) pss_nil)
      (pss_one (ps_ret (pe_tup (pa_cons (pe_tup (pa_cons pe_str (pa_cons (pe_ix ix_tup (pe_ix ix_list (pv 1) (pe_un un_neg pe_int) (fun _ _ => rfl)) pe_int (fun _ _ => rfl)) pa_nil))) (pa_cons (pe_slice sl_list (pv 1) po_none (po_some (pe_op op_sub (pe_callB call_len_seq (by rfl) T.z_len PySem.boot_len (pa_cons (pv 1) pa_nil)) pe_int))) (pa_cons (pv 2) pa_nil)))))))))))), ?_⟩
    have al := g.ar
    have lfin := g.lfin
    have tk := pt.trk
    obtain ⟨lq, ow, lw⟩ := tk.lt g
    have lts := pt.len
    have lzs := en.len
    have fe : fin[q]? = some (fin[q]'(by omega)) := List.getElem?_eq_getElem (by omega)
    have fv : (fin.map finV)[q]? = some (finV (fin[q]'(by omega))) := by rw [List.getElem?_map, fe]; rfl
    generalize fin[q]'(by omega) = o at fe fv
    have ne1 : ∀ {x y : Str}, decide (x = y) = false → decide (V.str x = V.str y) = false := fun h => decide_eq_false fun e => of_decide_eq_false h (V.str.inj e)
    -- the path stays
    have ret : ∀ {G : Hp} {ys : List V} {c'}, Same H G → Does (cs r) mv fin ps qs q c d ys ps qs q c' → ∀ {t1 t : Addr}, G t1 = none → (upd G t1 (.tup ys)) t = none → Q (.ref t) (upd (upd G t1 (.tup ys)) t (.tup [.ref t1, .ref pa, .bl c'])) := fun {G ys c'} s dd {t1 t} n1 nt => by
      have k1 := same_new (o := .tup ys) n1
      have k2 := same_new (o := .tup [.ref t1, .ref pa, .bl c']) nt
      have ks := (s.trans k1).trans k2
      exact k _ _ _ _ _ ts dd pt t1 t pa zs _ ks (k2 _ _ upd_same) (.inl rfl) (ks _ _ hpa) (en.same ks) upd_same
    refine ⟨fun σ' G => σ' = [some (.ref p), some (.ref pa), some (.bl c), some (.ref dt), some (.int (q : Int)), none, none] ∧ G = H, ?_, ?_⟩
    · refine ⟨_, rfl, _, .inl ⟨_, .inl (.inl hpa), rfl⟩, ?_⟩
      rcases pt.last with ⟨e, eq⟩ | ⟨ts', c', x, e⟩
      · have zs0 : zs = [] := List.length_eq_zero_iff.mp (by rw [lzs, e]; rfl)
        rw [zs0, eq]
        exact iteN rfl ⟨rfl, rfl⟩
      · have l2 : zs.length = ts'.length + 1 := by rw [lzs, e, List.length_append]; rfl
        have zne : zs ≠ [] := fun e => by rw [e] at l2; cases l2
        have hx : ts[zs.length - 1]? = some (c', x, q) := by rw [e, l2, Nat.add_sub_cancel, List.getElem?_append_right (Nat.le_refl _), Nat.sub_self]; rfl
        obtain ⟨y, hy⟩ : ∃ y, zs[zs.length - 1]? = some y := ⟨_, List.getElem?_eq_getElem (by omega)⟩
        obtain ⟨e', t, he', rfl, ht⟩ := en.get hy
        rw [hx] at he'
        cases he'
        exact iteC (by rw [List.isEmpty_eq_false_iff.mpr zne]; rfl) ⟨_, rfl, _, rfl, pa, _, _, _, rfl, rfl, .inl (.inl hpa), atI_neg1 hy, _, _, _, _, rfl, rfl, .inl (.inl ht), rfl, rfl, rfl⟩
    rintro σ' G ⟨rfl, rfl⟩
    cases d with
    | push v =>
      have s0 := sv v rfl
      refine ⟨_, rfl, _, _, _, _, rfl, rfl, .inl (.inl hd), rfl, rfl, _, rfl, iteC (decide_eq_true rfl) ?_⟩
      refine ⟨_, rfl, _, _, _, _, rfl, rfl, .inl (.inl hd), rfl, ?_⟩
      obtain ⟨ty, hty, kt⟩ := isi_str (K := K) s0
      refine ⟨_, rfl, _, _, _, _, _, rfl, .ty _, hty, kt, _, rfl, ?_⟩
      have bad : (¬ ∃ ch, ch ∈ cs r ∧ v = .str (⟨#[ch]⟩ : Str)) → ∀ {t1 t : Addr}, G t1 = none → (upd G t1 (.tup [.str (Str.ofString "BadWord"), v])) t = none → Q (.ref t) (upd (upd G t1 (.tup [.str (Str.ofString "BadWord"), v])) t (.tup [.ref t1, .ref pa, .bl c])) := fun no {t1 t} n1 nt => ret (.refl G) (.bad no) n1 nt
      cases hs : isStr v with
      | false =>
        refine iteC rfl (iteC rfl ?_)
        have no : ¬ ∃ ch, ch ∈ cs r ∧ v = .str (⟨#[ch]⟩ : Str) := fun ⟨ch, _, e⟩ => by rw [e] at hs; cases hs
        exact ⟨_, rfl, by show 2 ≤ sizeLine; decide, fun t1 n1' => ⟨_, rfl, _, rfl, by show 3 ≤ sizeLine; decide, fun t nt => bad no n1' nt⟩⟩
      | true =>
      obtain ⟨x, rfl⟩ := isStr_of hs
      refine iteN rfl ?_
      refine ⟨_, rfl, x, rfl, small_text s0.text, rfl, _, rfl, ?_⟩
      by_cases l1 : x.length = 1
      case neg =>
        have no : ¬ ∃ ch, ch ∈ cs r ∧ V.str x = .str (⟨#[ch]⟩ : Str) := fun ⟨ch, _, e⟩ => l1 (by rw [V.str.inj e]; rfl)
        refine iteC (by rw [decide_eq_false (fun e => l1 (by have := V.int.inj e; omega))]; rfl) (iteC rfl ?_)
        exact ⟨_, rfl, by show 2 ≤ sizeLine; decide, fun t1 n1' => ⟨_, rfl, _, rfl, by show 3 ≤ sizeLine; decide, fun t nt => bad no n1' nt⟩⟩
      case pos =>
      refine iteN (by rw [l1]; rfl) ?_
      obtain ⟨ch, rfl⟩ := sign_of l1
      refine ⟨_, rfl, _, rfl, _, _, _, _, rfl, rfl, .inl (.inl D.hp), rfl, ch, r, rfl, rfl, _, rfl, ?_⟩
      by_cases mc : ch ∈ cs r
      case neg =>
        have no : ¬ ∃ c', c' ∈ cs r ∧ V.str (⟨#[ch]⟩ : Str) = .str (⟨#[c']⟩ : Str) := fun ⟨c', m, e⟩ => mc (by rw [sign1_inj e]; exact m)
        refine iteC (by show (!decide (ch ∈ cs r)) = true; rw [decide_eq_false mc]; rfl) ?_
        exact ⟨_, rfl, by show 2 ≤ sizeLine; decide, fun t1 n1' => ⟨_, rfl, _, rfl, by show 3 ≤ sizeLine; decide, fun t nt => bad no n1' nt⟩⟩
      case pos =>
      refine iteN (by show (!decide (ch ∈ cs r)) = false; rw [decide_eq_true mc]; rfl) ?_
      refine ⟨_, rfl, _, rfl, ?_⟩
      cases c with
      | true => exact iteC rfl ⟨by show 1 ≤ sizeLine; decide, fun t1 n1' => ⟨_, rfl, _, rfl, by show 3 ≤ sizeLine; decide, fun t nt => ret (.refl G) (.shut rfl mc) n1' nt⟩⟩
      | false =>
      refine iteN rfl ?_
      obtain ⟨nM, rows, hM, pr⟩ := D.gr
      obtain ⟨row, hrow, hm⟩ := g.look lq mc
      obtain ⟨_, er, q0, xr, rfl, nq0, hq0, st'⟩ := paired_get2 pr hrow
      obtain ⟨x, ex, sx⟩ := paired_get2 st' hm
      refine ⟨_, rfl, _, _, _, _, rfl, rfl, .inl (.inl D.hp), rfl, _, rfl, M0, rows, _, _, rfl, rfl, .inl (.inl hM), atI_nat er, _, rfl, _, _, _, _, rfl, rfl, .inl (.inl D.hp), rfl, ⟨r, rfl⟩, _, rfl, r, ch, rfl, rfl, al.nodup, mc, q0, xr, _, _, rfl, rfl, .inl (.inl hq0), atI_nat ex, ?_⟩
      refine ⟨_, rfl, rfl, _, rfl, ?_⟩
      cases hst : stpR (cs r) mv q ch with
      | none =>
        rw [hst] at sx
        obtain rfl : x = .non := sx
        exact iteC rfl ⟨_, rfl, by show 2 ≤ sizeLine; decide, fun t1 n1' => ⟨_, rfl, _, rfl, by show 3 ≤ sizeLine; decide, fun t nt => ret (.refl G) (.none rfl mc hst) n1' nt⟩⟩
      | some mm =>
        obtain ⟨w', t⟩ := mm
        rw [hst] at sx
        obtain ⟨a, rfl, ha⟩ := sx
        obtain ⟨ow', lw', t0, t1'⟩ := g.step hst
        refine iteN rfl ⟨_, rfl, _, _, _, _, rfl, rfl, .inl (.inl ha), rfl, by show 2 ≤ sizeLine; decide, fun t1 n1' => ?_⟩
        have k1 := same_new (o := .tup [.str (Str.ofString "told"), .str w']) n1'
        have ht1 : (upd G t1 (.tup [.str (Str.ofString "told"), .str w'])) t1 = some (.tup [.str (Str.ofString "told"), .str w']) := upd_same
        show tCons _ _ _ (upd G t1 (.tup [.str (Str.ofString "told"), .str w'])) _
        generalize upd G t1 (.tup [.str (Str.ofString "told"), .str w']) = G1 at k1 ht1 ⊢
        have ha1 := k1 _ _ ha
        refine ⟨_, rfl, _, rfl, _, rfl, _, _, _, _, rfl, rfl, .inl (.inl ha1), rfl, _, rfl, _, _, _, _, rfl, rfl, .inl (.inl ha1), rfl, by show 3 ≤ sizeLine; decide, fun te nte => ?_⟩
        have k2 := same_new (o := .tup [.str (⟨#[ch]⟩ : Str), .str w', .int t]) nte
        have hte : (upd G1 te (.tup [.str (⟨#[ch]⟩ : Str), .str w', .int t])) te = some (.tup (p3V (ch, w', t.toNat))) := by
          rw [upd_same]
          unfold p3V
          rw [Int.toNat_of_nonneg t0]
        have ht2 := k2 _ _ ht1
        generalize upd G1 te (.tup [.str (⟨#[ch]⟩ : Str), .str w', .int t]) = G2 at k2 hte ht2 ⊢
        refine ⟨by show 1 ≤ sizeLine; decide, fun tl ntl => ?_⟩
        have k3 := same_new (o := .lst [.ref te]) ntl
        have htl : (upd G2 tl (.lst [.ref te])) tl = some (.lst [.ref te]) := upd_same
        have hte3 := k3 _ _ hte
        have ht3 := k3 _ _ ht2
        have k123 := (k1.trans k2).trans k3
        have hpa3 := k123 _ _ hpa
        generalize upd G2 tl (.lst [.ref te]) = G3 at k3 htl hte3 ht3 k123 hpa3 ⊢
        refine ⟨pa, tl, zs, [.ref te], rfl, rfl, hpa3, htl, Nat.le_trans (show zs.length + 1 ≤ 4000000 by omega) (by decide), fun pn npn => ?_⟩
        have k4 := same_new (o := .lst (zs ++ [.ref te])) npn
        have hpn : (upd G3 pn (.lst (zs ++ [.ref te]))) pn = some (.lst (zs ++ [.ref te])) := upd_same
        have hte4 := k4 _ _ hte3
        have ht4 := k4 _ _ ht3
        have npnH := k123.free npn
        have k14 := k123.trans k4
        show tCons _ _ _ (upd G3 pn (.lst (zs ++ [.ref te]))) _
        generalize upd G3 pn (.lst (zs ++ [.ref te])) = G4 at k4 hpn hte4 ht4 k14 ⊢
        refine ⟨_, rfl, by show 3 ≤ sizeLine; decide, fun tf ntf => ?_⟩
        have k5 := same_new (o := .tup [.ref t1, .ref pn, .bl false]) ntf
        exact k _ _ _ _ _ _ (.push rfl mc hst rfl rfl rfl) (.snoc pt mc hst) t1 tf pn _ _ (k14.trans k5) (k5 _ _ ht4) (.inr npnH) (k5 _ _ hpn) (paired_snoc ((en.same k14).same k5) ⟨te, rfl, k5 _ _ hte4⟩) upd_same
    | close =>
      refine ⟨_, rfl, _, _, _, _, rfl, rfl, .inl (.inl hd), rfl, rfl, _, rfl, iteN (ne1 (by decide +kernel)) ?_⟩
      refine ⟨_, rfl, _, _, _, _, rfl, rfl, .inl (.inl hd), rfl, rfl, _, rfl, iteC (decide_eq_true rfl) ?_⟩
      refine ⟨_, rfl, _, rfl, ?_⟩
      cases c with
      | true => exact iteC rfl ⟨by show 1 ≤ sizeLine; decide, fun t1 n1' => ⟨_, rfl, _, rfl, by show 3 ≤ sizeLine; decide, fun t nt => ret (.refl G) .closed n1' nt⟩⟩
      | false =>
      refine iteN rfl ?_
      refine ⟨_, rfl, _, _, _, _, rfl, rfl, .inl (.inl D.hp), rfl, _, rfl, F0, _, _, _, rfl, rfl, .inl (.inl D.hf), atI_nat fv, rfl, _, rfl, ?_⟩
      cases o with
      | none => exact iteC rfl ⟨by show 1 ≤ sizeLine; decide, fun t1 n1' => ⟨_, rfl, _, rfl, by show 3 ≤ sizeLine; decide, fun t nt => ret (.refl G) (.open_ fe) n1' nt⟩⟩
      | some x => exact iteN rfl ⟨_, rfl, _, _, _, _, rfl, rfl, .inl (.inl D.hp), rfl, _, rfl, F0, _, _, _, rfl, rfl, .inl (.inl D.hf), atI_nat fv, by show 2 ≤ sizeLine; decide, fun t1 n1' => ⟨_, rfl, by show 3 ≤ sizeLine; decide, fun t nt => ret (.refl G) (.close fe) n1' nt⟩⟩
    | back =>
      refine ⟨_, rfl, _, _, _, _, rfl, rfl, .inl (.inl hd), rfl, rfl, _, rfl, iteN (ne1 (by decide +kernel)) ?_⟩
      refine ⟨_, rfl, _, _, _, _, rfl, rfl, .inl (.inl hd), rfl, rfl, _, rfl, iteN (ne1 (by decide +kernel)) ?_⟩
      refine ⟨_, rfl, _, rfl, ?_⟩
      cases c with
      | true => exact iteC rfl ⟨by show 2 ≤ sizeLine; decide, fun t1 n1' => ⟨_, rfl, by show 3 ≤ sizeLine; decide, fun t nt => ret (.refl G) .reopen n1' nt⟩⟩
      | false =>
      refine iteN rfl ?_
      refine ⟨_, rfl, _, .inl ⟨_, .inl (.inl hpa), rfl⟩, ?_⟩
      rcases pt.inv with ⟨e1, e2, e3, e4⟩ | ⟨ts', ps', qs', q', ch, x, t, e1, e2, e3, e4, pt', mc, hst⟩
      · have zs0 : zs = [] := List.length_eq_zero_iff.mp (by rw [lzs, e1]; rfl)
        refine iteC (by rw [zs0]; rfl) ⟨by show 1 ≤ sizeLine; decide, fun t1 n1' => ⟨_, rfl, _, rfl, by show 3 ≤ sizeLine; decide, fun t nt => ret (.refl G) (.nothing e2) n1' nt⟩⟩
      · have l2 : zs.length = ts'.length + 1 := by rw [lzs, e1, List.length_append]; rfl
        have zne : zs ≠ [] := fun e => by rw [e] at l2; cases l2
        have hx : ts[zs.length - 1]? = some (ch, x, t.toNat) := by rw [e1, l2, Nat.add_sub_cancel, List.getElem?_append_right (Nat.le_refl _), Nat.sub_self]; rfl
        obtain ⟨y, hy⟩ : ∃ y, zs[zs.length - 1]? = some y := ⟨_, List.getElem?_eq_getElem (by omega)⟩
        obtain ⟨e', tt, he', rfl, ht⟩ := en.get hy
        rw [hx] at he'
        cases he'
        refine iteN (by rw [List.isEmpty_eq_false_iff.mpr zne]; rfl) ?_
        refine ⟨_, rfl, _, rfl, pa, _, _, _, rfl, rfl, .inl (.inl hpa), atI_neg1 hy, _, _, _, _, rfl, rfl, .inl (.inl ht), rfl, by show 2 ≤ sizeLine; decide, fun t1 n1' => ?_⟩
        have k1 := same_new (o := .tup [.str (Str.ofString "told"), .str (⟨#[ch]⟩ : Str)]) n1'
        have ht1 : (upd G t1 (.tup [.str (Str.ofString "told"), .str (⟨#[ch]⟩ : Str)])) t1 = some (.tup [.str (Str.ofString "told"), .str (⟨#[ch]⟩ : Str)]) := upd_same
        show tCons _ _ _ (upd G t1 (.tup [.str (Str.ofString "told"), .str (⟨#[ch]⟩ : Str)])) _
        generalize upd G t1 (.tup [.str (Str.ofString "told"), .str (⟨#[ch]⟩ : Str)]) = G1 at k1 ht1 ⊢
        have hpa1 := k1 _ _ hpa
        refine ⟨_, rfl, _, rfl, pa, _, rfl, .inl (.inl (.inl hpa1)), _, _, rfl, rfl, _, rfl, pa, zs, rfl, .inl (.inl hpa1), fun pn npn => ?_⟩
        rw [show (zs.length : Int) - 1 = ((ts'.length : Nat) : Int) by omega, cut_take (by omega)]
        have k4 := same_new (o := .lst (zs.take ts'.length)) npn
        have hpn : (upd G1 pn (.lst (zs.take ts'.length))) pn = some (.lst (zs.take ts'.length)) := upd_same
        have npnH := k1.free npn
        have k14 := k1.trans k4
        have ht4 := k4 _ _ ht1
        generalize upd G1 pn (.lst (zs.take ts'.length)) = G4 at k4 hpn k14 ht4 ⊢
        refine ⟨_, rfl, by show 3 ≤ sizeLine; decide, fun tf ntf => ?_⟩
        have k5 := same_new (o := .tup [.ref t1, .ref pn, .bl false]) ntf
        have en' : EntL p3V G (zs.take ts'.length) ts' := by
          have h := paired_take ts'.length en
          rw [e1, List.take_append_of_le_length (Nat.le_refl _), List.take_of_length_le (Nat.le_refl _)] at h
          exact h
        exact k _ _ _ _ _ _ (.back e2 e3) pt' t1 tf pn _ _ (k14.trans k5) (k5 _ _ ht4) (.inr npnH) (k5 _ _ hpn) ((en'.same k14).same k5) upd_same

def sp_Session_back [Tabl] (CU C : Addr) (K : PySem.W.Frag) : Sp := fun vs H Q E => ∃ (s : Addr) (r z f : Str) (mv : Grid) (fin : List (Option Str)) (dx m M F P S : Addr) (ps : List (Nat × Str)) (qs : List Nat) (q : Nat) (c : Bool) (L : List Addr), vs = [.ref s] ∧ SeA C L H s r f mv fin dx m M F P S ps qs q c ∧ GoodR r z f mv fin ∧ ps.length ≤ 9000 ∧
  (c = true → ∀ H', But s H H' → SeA C L H' s r f mv fin dx m M F P S ps qs q false → Q (.str (Str.ofString "")) H') ∧ (c = false → ps = [] → RaisedN H CU E) ∧
    (c = false → ∀ ps' ch x qs' q', ps = ps' ++ [(ch, x)] → qs = qs' ++ [q'] → ∀ H', ButL [P, S] H H' → SeA C L H' s r f mv fin dx m M F P S ps' qs' q' false → Q (.str (⟨#[ch]⟩ : Str)) H')
theorem ok_Session_back (T : Txt K mg base) : FnOk P w K mg base (L2.CX P w) (0 + 1) T.f_Session_back T.fd_Session_back ["self"] (sp_Session_back T.C_NothingToUndo T.C_Session K) := by
  refine T.F_Session_back.okX sc_Session_back (fun vs H Q E h => ?_) (fun cdv A outer st H vs Q E hr h => ?_)
  · obtain ⟨s, r, z, f, mv, fin, dx, m, M, F, P, S, ps, qs, q, c, L, rfl, _⟩ := h
    rfl
  · obtain ⟨s, r, z, f, mv, fin, dx, m, M, F, P, S, ps, qs, q, c, L, rfl, D, g, lp, kc, ku, k⟩ := h
    refine ⟨_, (pss_cons (ps_if (pt_val (pe_fld (pv 0) rfl)) (pss_cons (ps_fld (pv 0) pe_bl rfl)
      (pss_one (ps_ret pe_str))) pss_nil)
      (pss_cons (ps_if (pt_not (pt_truth (pe_fld (pv 0) rfl) (by intro _; rfl))) (pss_one (ps_raise rfl (takes_of rfl rfl rfl rfl) (pmk_own0 PySem.F.excBase_ValueError T.xi_NothingToUndo T.E_NothingToUndo.g T.E_NothingToUndo.o.kC (raises_own T.E_NothingToUndo.o.exC T.E_NothingToUndo.o.tyC) (by rfl)))) pss_nil)
      (pss_cons (ps_asg (pe_bm0 PySem.F.plainAttrs_list PySem.F.slot_list_pop PySem.F.type_list_pop mt_pop (pe_fld (pv 0) rfl)) (pg_tup (by rfl) (pgs_cons (pg_name (i := 1) sc_Session_back.nd rfl (.inl rfl)) (pgs_cons (pg_name (i := 2) sc_Session_back.nd rfl (.inl rfl)) pgs_nil))))
      (pss_cons (ps_expr (pe_bm0 PySem.F.plainAttrs_list PySem.F.slot_list_pop PySem.F.type_list_pop mt_pop (pe_fld (pv 0) rfl)))
      (pss_one (ps_ret (pv 1))))))), ?_⟩
    refine ⟨_, rfl, s, _, dx, _, _, rfl, D.ins, T.cl_Session, T.no_Session__closed, sfs_closed, _, rfl, ?_⟩
    cases c with
    | true =>
      refine iteC rfl ?_
      refine ⟨_, rfl, s, _, dx, _, rfl, D.ins, T.cl_Session, T.no_Session__closed, sfs_len, ?_⟩
      rw [sfs_put]
      have B : But s H (upd H s (.ins T.C_Session dx (sfs m r f M F P S false))) := But.put D.ins
      have ns : ∀ {b : Addr} {xs : List V}, H b = some (.lst xs) → b ≠ s := fun h e => by rw [e, D.ins] at h; cases h
      have nt : ∀ {b : Addr} {xs : List V}, H b = some (.tup xs) → b ≠ s := fun h e => by rw [e, D.ins] at h; cases h
      have D1 : SeA T.C_Session L (upd H s (.ins T.C_Session dx (sfs m r f M F P S false))) s r f mv fin dx m M F P S ps qs q false :=
        ⟨upd_same, D.gr.ins B D.ins, B _ _ (ns D.hf) D.hf, D.nf, let ⟨xs, e, en⟩ := D.hp; ⟨xs, B _ _ (ns e) e, Paired.mapP en fun _ _ ⟨t, e, q⟩ => ⟨t, e, B _ _ (nt q) q⟩⟩, B _ _ (ns D.hs) D.hs, D.ne, D.nP, D.nS, D.tk, fun z => by cases z⟩
      exact kc rfl _ B D1
    | false =>
    refine iteN rfl ?_
    obtain ⟨xs, hP, en⟩ := D.hp
    have lxs := en.len
    rcases D.tk.inv with ⟨rfl, rfl, rfl⟩ | ⟨ps', qs', q', ch, x, t, rfl, rfl, rfl, tk', mc, hst⟩
    · have xs0 : xs = [] := List.length_eq_zero_iff.mp lxs
      subst xs0
      exact ⟨_, rfl, s, _, dx, _, _, rfl, D.ins, T.cl_Session, T.no_Session__pushed, sfs_pushed, _, .inl ⟨_, .inl (.inl hP), rfl⟩, iteC rfl (ku rfl rfl H (.refl H))⟩
    · rw [List.length_append, List.length_singleton] at lxs
      have xne : xs ≠ [] := fun e => by rw [e] at lxs; cases lxs
      obtain ⟨ys, y, rfl⟩ : ∃ ys y, xs = ys ++ [y] := ⟨_, _, (List.dropLast_concat_getLast xne).symm⟩
      have lys : ys.length = ps'.length := by
        rw [List.length_append, List.length_singleton] at lxs
        omega
      obtain ⟨en', t1, rfl, ht1⟩ : EntL pcV H ys ps' ∧ ∃ t1, y = .ref t1 ∧ H t1 = some (.tup (pcV (ch, x))) := by
        refine ⟨EntL.of lys fun i a e ha he => ?_, ?_⟩
        · have la := (List.getElem?_eq_some_iff.mp ha).1
          obtain ⟨e', t', he', ea, ht'⟩ := en.get (i := i) (x := a) (by rw [List.getElem?_append_left la]; exact ha)
          rw [List.getElem?_append_left (by omega), he] at he'
          cases he'
          exact ⟨t', ea, ht'⟩
        · obtain ⟨e', t', he', ea, ht'⟩ := en.get (i := ys.length) (x := y) (by rw [List.getElem?_append_right (Nat.le_refl _), Nat.sub_self]; rfl)
          rw [lys, List.getElem?_append_right (Nat.le_refl _), Nat.sub_self] at he'
          cases he'
          exact ⟨t', ea, ht'⟩
      refine ⟨_, rfl, s, _, dx, _, _, rfl, D.ins, T.cl_Session, T.no_Session__pushed, sfs_pushed, _, .inl ⟨_, .inl (.inl hP), rfl⟩, iteN (by rw [List.isEmpty_eq_false_iff.mpr xne]; rfl) ?_⟩
      have b1 : ButL [P, S] H (upd H P (.lst ys)) := ButL.put (by simp) hP
      refine ⟨_, rfl, s, _, dx, _, _, rfl, D.ins, T.cl_Session, T.no_Session__pushed, sfs_pushed, .inl ⟨rfl, _, .inl (.inl hP)⟩, P, _, .ref t1, rfl, rfl, hP, by simp, ?_⟩
      rw [List.dropLast_concat]
      have hP2 : (upd H P (.lst ys)) P = some (.lst ys) := upd_same
      have hS2 : (upd H P (.lst ys)) S = some (.lst (stL (qs' ++ [q']) t.toNat)) := by rw [upd_ne (Ne.symm D.ne)]; exact D.hs
      generalize upd H P (.lst ys) = H2 at b1 hP2 hS2 ⊢
      have ht2 := b1.tup ht1
      have D2 := b1.ins D.ins
      refine ⟨t1, _, rfl, .inl (.inl ht2), rfl, _, _, rfl, _, _, rfl, rfl, ?_⟩
      have eS : stL (qs' ++ [q']) t.toNat = stL qs' q' ++ [.int ((t.toNat : Nat) : Int)] := by
        unfold stL
        rw [List.map_append]
        rfl
      rw [eS] at hS2
      refine ⟨_, rfl, s, _, dx, _, _, rfl, D2, T.cl_Session, T.no_Session__states, sfs_states, .inl ⟨rfl, _, .inl (.inl hS2)⟩, S, _, .int ((t.toNat : Nat) : Int), rfl, rfl, hS2, by simp, ?_⟩
      rw [List.dropLast_concat]
      have b3 : ButL [P, S] H2 (upd H2 S (.lst (stL qs' q'))) := ButL.put (by simp) hS2
      have hS3 : (upd H2 S (.lst (stL qs' q'))) S = some (.lst (stL qs' q')) := upd_same
      have hP3 : (upd H2 S (.lst (stL qs' q'))) P = some (.lst ys) := by rw [upd_ne D.ne]; exact hP2
      generalize upd H2 S (.lst (stL qs' q')) = H3 at b3 hS3 hP3 ⊢
      have b4 := b1.trans b3
      have b5 : ButL (P :: S :: L) H H3 := b4.more fun b m => by
        simp only [List.mem_cons, List.not_mem_nil, or_false] at m ⊢
        exact m.imp id .inl
      exact ⟨_, rfl, k rfl ps' ch x qs' q' rfl rfl H3 b4 ⟨b4.ins D.ins, D.gr.butl b5, b5.row D.hf D.nf, D.nf, ⟨_, hP3, en'.butl b4⟩, hS3, D.ne, D.nP, D.nS, tk', fun z => by cases z⟩⟩

def sp_Session_close [Tabl] (CC CN C : Addr) (K : PySem.W.Frag) : Sp := fun vs H Q E => ∃ (s : Addr) (r z f : Str) (mv : Grid) (fin : List (Option Str)) (dx m M F P S : Addr) (ps : List (Nat × Str)) (qs : List Nat) (q : Nat) (c : Bool) (L : List Addr), vs = [.ref s] ∧ SeA C L H s r f mv fin dx m M F P S ps qs q c ∧ GoodR r z f mv fin ∧
  (c = true → RaisedN H CC E) ∧ (c = false → fin[q]? = some none → RaisedN H CN E) ∧ (c = false → ∀ x, fin[q]? = some (some x) → ∀ H', But s H H' → SeA C L H' s r f mv fin dx m M F P S ps qs q true → Q (.str x) H')
theorem ok_Session_close (T : Txt K mg base) : FnOk P w K mg base (L2.CX P w) (0 + 1) T.f_Session_close T.fd_Session_close ["self"] (sp_Session_close T.C_Closed T.C_NotFinal T.C_Session K) := by
  refine T.F_Session_close.okX sc_Session_close (fun vs H Q E h => ?_) (fun cdv A outer st H vs Q E hr h => ?_)
  · obtain ⟨s, r, z, f, mv, fin, dx, m, M, F, P, S, ps, qs, q, c, L, rfl, _⟩ := h
    rfl
  · obtain ⟨s, r, z, f, mv, fin, dx, m, M, F, P, S, ps, qs, q, c, L, rfl, D, g, qc, qn, k⟩ := h
    refine ⟨_, (pss_cons (ps_if (pt_val (pe_fld (pv 0) rfl)) (pss_one (ps_raise rfl (takes_of rfl rfl rfl rfl) (pmk_own0 PySem.F.excBase_ValueError T.xi_Closed T.E_Closed.g T.E_Closed.o.kC (raises_own T.E_Closed.o.exC T.E_Closed.o.tyC) (by rfl)))) pss_nil)
      (pss_cons (ps_set (i := 1) sc_Session_close.nd rfl (.inl rfl) (pe_ix ix_list (pe_fld (pv 0) rfl) (pe_ix ix_list (pe_fld (pv 0) rfl) (pe_un un_neg pe_int) (fun _ _ => rfl)) (fun _ _ => rfl)))
      (pss_cons (ps_if (pt_cmpR op_isN (pv 1) pe_non (nomark _)) (pss_one (ps_raise rfl (takes_of rfl rfl rfl rfl) (pmk_own0 PySem.F.excBase_ValueError T.xi_NotFinal T.E_NotFinal.g T.E_NotFinal.o.kC (raises_own T.E_NotFinal.o.exC T.E_NotFinal.o.tyC) (by rfl)))) pss_nil)
      (pss_cons (ps_fld (pv 0) pe_bl rfl)
      (pss_one (ps_ret (pv 1))))))), ?_⟩
    obtain ⟨lq, _, _⟩ := D.tk.lt g
    have lfin := g.lfin
    refine ⟨_, rfl, s, _, dx, _, _, rfl, D.ins, T.cl_Session, T.no_Session__closed, sfs_closed, _, rfl, ?_⟩
    cases c with
    | true => exact iteC rfl (qc rfl H (.refl H))
    | false =>
      refine iteN rfl ?_
      have fe : fin[q]? = some (fin[q]'(by omega)) := List.getElem?_eq_getElem (by omega)
      have fv : (fin.map finV)[q]? = some (finV (fin[q]'(by omega))) := by rw [List.getElem?_map, fe]; rfl
      generalize fin[q]'(by omega) = o at fe fv
      refine ⟨_, rfl, s, _, dx, _, _, rfl, D.ins, T.cl_Session, T.no_Session__lasts, sfs_lasts, _, rfl, s, _, dx, _, _, rfl, D.ins, T.cl_Session, T.no_Session__states, sfs_states, _, rfl, S, _, _, _, rfl, rfl, .inl (.inl D.hs), atI_last _ _, F, _, _, _, rfl, rfl, .inl (.inl D.hf), atI_nat fv, ?_⟩
      refine ⟨_, rfl, rfl, _, rfl, ?_⟩
      cases o with
      | none => exact iteC rfl (qn rfl fe H (.refl H))
      | some x =>
        refine iteN rfl ?_
        refine ⟨_, rfl, s, _, dx, _, rfl, D.ins, T.cl_Session, T.no_Session__closed, sfs_len, ?_⟩
        rw [sfs_put]
        have B : But s H (upd H s (.ins T.C_Session dx (sfs m r f M F P S true))) := But.put D.ins
        have ns : ∀ {b : Addr} {xs : List V}, H b = some (.lst xs) → b ≠ s := fun h e => by rw [e, D.ins] at h; cases h
        have nt : ∀ {b : Addr} {xs : List V}, H b = some (.tup xs) → b ≠ s := fun h e => by rw [e, D.ins] at h; cases h
        have D1 : SeA T.C_Session L (upd H s (.ins T.C_Session dx (sfs m r f M F P S true))) s r f mv fin dx m M F P S ps qs q true :=
          ⟨upd_same, D.gr.ins B D.ins, B _ _ (ns D.hf) D.hf, D.nf, let ⟨xs, e, en⟩ := D.hp; ⟨xs, B _ _ (ns e) e, Paired.mapP en fun _ _ ⟨t, e, q⟩ => ⟨t, e, B _ _ (nt q) q⟩⟩, B _ _ (ns D.hs) D.hs, D.ne, D.nP, D.nS, D.tk, fun _ => ⟨x, fe⟩⟩
        exact ⟨_, rfl, k rfl x fe _ B D1⟩

def sp_is_letter (_ : PySem.W.Frag) : Sp := fun vs H Q _ => ∃ (v : V) (z : Str), vs = [.str z, v] ∧ z.length ≤ 4000000 ∧ Shal H v ∧ ∀ b : Bool, (b = true ↔ ∃ x, v = .str x ∧ x.length = 1 ∧ Over z x) → Q (.bl b) H
theorem ok_is_letter (T : Txt K mg base) : FnOk P w K mg base CX0 (0 + 1) T.f_is_letter T.fd_is_letter ["letters", "value"] (sp_is_letter K) := by
  refine T.F_is_letter.ok sc_is_letter (fun vs H Q E h => ?_) (fun cdv A outer s H vs Q E hr h => ?_)
  · obtain ⟨v, z, rfl, _⟩ := h
    rfl
  · obtain ⟨v, z, rfl, sz, sv, q⟩ := h
    refine ⟨_, (pss_one (ps_ret (pe_and (pe_callB call_isi (by rfl) T.z_isinstance (by decide +kernel) (pa_cons (pv 1) (pa_cons (pe_bltn (v := .ty "str") (by rfl) T.z_str (by decide +kernel) rfl) pa_nil))) (pe_and (pe_cmpR op_eq (pe_callB call_len_str (by rfl) T.z_len PySem.boot_len (pa_cons (pv 1) pa_nil)) pe_int (nomark _)) (pe_one (pe_cmpR op_in_sign (pv 1) (pv 0) rfl)))))), ?_⟩
    obtain ⟨ty, hty, kt⟩ := isi_str (K := K) sv
    refine ⟨_, rfl, _, _, _, _, _, rfl, .ty _, hty, kt, _, rfl, ?_⟩
    cases hs : isStr v with
    | false =>
      refine iteF (q false ⟨fun h => (by cases h), fun ⟨x, e, _⟩ => ?_⟩)
      rw [e] at hs
      cases hs
    | true =>
    obtain ⟨x, rfl⟩ := isStr_of hs
    refine iteT ⟨_, rfl, x, rfl, small_text sv.text, rfl, _, rfl, ite2 (fun g => ?_) (fun g => ?_)⟩
    · have g1 : x.length = 1 := by
        have := of_decide_eq_true g
        injection this with e
        omega
      obtain ⟨c, rfl⟩ := sign_of g1
      refine ⟨_, rfl, _, rfl, c, z, rfl, rfl, q _ ?_⟩
      constructor
      · intro h
        exact ⟨_, rfl, g1, fun d hd => by rw [show d = c from List.mem_singleton.mp hd]; exact of_decide_eq_true h⟩
      · rintro ⟨y, e, _, o⟩
        cases e
        exact decide_eq_true (o c (List.mem_singleton.mpr rfl))
    · refine q false ⟨fun h => (by cases h), fun ⟨y, e, l, _⟩ => (g (decide_eq_true ?_)).elim⟩
      cases e
      rw [l]
      rfl

def sp_Session_reads [Tabl] (C : Addr) (K : PySem.W.Frag) : Sp := fun vs H Q _ => ∃ (s : Addr) (r f : Str) (mv : Grid) (fin : List (Option Str)) (dx m M F P S : Addr) (ps : List (Nat × Str)) (qs : List Nat) (q : Nat) (c : Bool) (L : List Addr) (v : V), vs = [.ref s, v] ∧ SeA C L H s r f mv fin dx m M F P S ps qs q c ∧ r.length ≤ 4000000 ∧ Shal H v ∧ ∀ b : Bool, (b = true ↔ ∃ x, v = .str x ∧ x.length = 1 ∧ Over r x) → Q (.bl b) H
theorem ok_Session_reads (T : Txt K mg base) : FnOk P w K mg base CX0 (1 + 1) T.f_Session_reads T.fd_Session_reads ["self", "value"] (sp_Session_reads T.C_Session K) := by
  refine T.F_Session_reads.ok sc_Session_reads (fun vs H Q E h => ?_) (fun cdv A outer st H vs Q E hr h => ?_)
  · obtain ⟨s, r, f, mv, fin, dx, m, M, F, P, S, ps, qs, q, c, L, v, rfl, _⟩ := h
    rfl
  · obtain ⟨s, r, f, mv, fin, dx, m, M, F, P, S, ps, qs, q, c, L, v, rfl, D, lr, sv, k⟩ := h
    refine ⟨_, (pss_one (ps_ret (pe_call (ok_is_letter T) (hr.mono (by first | decide | exact Nat.le_refl _)) (by rfl) T.g_is_letter T.F_is_letter.kp T.b_is_letter .nil pass0 (pa_cons (pe_fld (pv 0) rfl) (pa_cons (pv 1) pa_nil))))), ?_⟩
    exact ⟨_, rfl, s, _, dx, _, _, rfl, D.ins, T.cl_Session, T.no_Session__alphabet, sfs_alphabet, _, rfl, v, r, rfl, lr, sv, fun b hb => k b hb⟩

def sp_Session_push [Tabl] (CW CC CM C : Addr) (K : PySem.W.Frag) : Sp := fun vs H Q E => ∃ (s : Addr) (r z f : Str) (mv : Grid) (fin : List (Option Str)) (dx m M F P S : Addr) (ps : List (Nat × Str)) (qs : List Nat) (q : Nat) (c : Bool) (L : List Addr) (v : V), vs = [.ref s, v] ∧ SeA C L H s r f mv fin dx m M F P S ps qs q c ∧ GoodR r z f mv fin ∧ Shal H v ∧ ps.length ≤ 9000 ∧
  ((¬ ∃ x, v = .str x ∧ x.length = 1 ∧ Over r x) → Raised H CW v E) ∧ ∀ ch, v = .str (⟨#[ch]⟩ : Str) → ch ∈ cs r → (c = true → RaisedN H CC E) ∧ (c = false → stpR (cs r) mv q ch = none → RaisedF H CM [("letter", v)] E) ∧
    (c = false → ∀ x t, stpR (cs r) mv q ch = some (x, t) → ∀ H', ButL [P, S] H H' → SeA C L H' s r f mv fin dx m M F P S (ps ++ [(ch, x)]) (qs ++ [q]) t.toNat false → Q (.str x) H')
theorem ok_Session_push (T : Txt K mg base) : FnOk P w K mg base (L2.CX P w) (3 + 1) T.f_Session_push T.fd_Session_push ["self", "letter"] (sp_Session_push T.C_BadWord T.C_Closed T.C_NoMove T.C_Session K) := by
  refine T.F_Session_push.okX sc_Session_push (fun vs H Q E h => ?_) (fun cdv A outer st H vs Q E hr h => ?_)
  · obtain ⟨s, r, z, f, mv, fin, dx, m, M, F, P, S, ps, qs, q, c, L, v, rfl, _⟩ := h
    rfl
  · obtain ⟨s, r, z, f, mv, fin, dx, m, M, F, P, S, ps, qs, q, c, L, v, rfl, D, g, sv, lp, qw, k⟩ := h
    refine ⟨_, (pss_cons (ps_if (pt_not (pt_val (pe_meth (pv 0) T.cl_Session T.m_Session_reads (ok_Session_reads T) (hr.mono (by first | decide | exact Nat.le_refl _)) T.b_Session_reads .nil pass0 (pa_cons (pv 1) pa_nil)))) (pss_one (ps_raise rfl (takes_of rfl rfl rfl rfl) (pmk_err1 T.E_BadWord T.iI_BadWord T.tI_BadWord T.no_BadWord_value (ok_init1 (k := 0) (p4 := ⟨0, 0, 0, 0⟩) T.FI_BadWord sci_BadWord (by decide) rfl) (hr.mono (by first | decide | exact Nat.le_refl _)) T.bI_BadWord pass0 (pa_cons (pv 1) pa_nil)))) pss_nil)
      (pss_cons (ps_if (pt_val (pe_fld (pv 0) rfl)) (pss_one (ps_raise rfl (takes_of rfl rfl rfl rfl) (pmk_own0 PySem.F.excBase_ValueError T.xi_Closed T.E_Closed.g T.E_Closed.o.kC (raises_own T.E_Closed.o.exC T.E_Closed.o.tyC) (by rfl)))) pss_nil)
      (pss_cons (ps_set (i := 2) sc_Session_push.nd rfl (.inl rfl) (pe_ix ix_list (pe_ix ix_list (pe_fld (pv 0) rfl) (pe_ix ix_list (pe_fld (pv 0) rfl) (pe_un un_neg pe_int) (fun _ _ => rfl)) (fun _ _ => rfl)) (pe_m1 PySem.F.slot_str_index PySem.F.type_str_index mt_sindex (pe_fld (pv 0) rfl) (pv 1)) (fun _ _ => rfl)))
      (pss_cons (ps_if (pt_cmpR op_isN (pv 2) pe_non (nomark _)) (pss_one (ps_raise rfl (takes_of rfl rfl rfl rfl) (pmk_err1 T.E_NoMove T.iI_NoMove T.tI_NoMove T.no_NoMove_letter (ok_init1 (k := 0) (p4 := ⟨0, 0, 0, 0⟩) T.FI_NoMove sci_NoMove (by decide) rfl) (hr.mono (by first | decide | exact Nat.le_refl _)) T.bI_NoMove pass0 (pa_cons (pv 1) pa_nil)))) pss_nil)
      (pss_cons (ps_expr (pe_bm PySem.F.plainAttrs_list PySem.F.slot_list_append PySem.F.type_list_append mt_append (pe_fld (pv 0) rfl) (pa_cons (pe_tup (pa_cons (pv 1) (pa_cons (pe_ix ix_tup (pv 2) pe_int (fun _ _ => rfl)) pa_nil))) pa_nil)))
      (pss_cons (ps_expr (pe_bm PySem.F.plainAttrs_list PySem.F.slot_list_append PySem.F.type_list_append mt_append (pe_fld (pv 0) rfl) (pa_cons (pe_ix ix_tup (pv 2) pe_int (fun _ _ => rfl)) pa_nil)))
      (pss_one (ps_ret (pe_ix ix_tup (pv 2) pe_int (fun _ _ => rfl)))))))))), ?_⟩
    have al := g.ar
    have r4 := al.len4
    obtain ⟨lq, ow, lw⟩ := D.tk.lt g
    refine ⟨_, rfl, s, dx, _, rfl, D.ins, sfs_reads, _, rfl, s, r, f, mv, fin, dx, m, M, F, P, S, ps, qs, q, c, L, v, rfl, D, by omega, sv, fun b hb => ⟨_, rfl, ?_⟩⟩
    cases b with
    | false => exact iteC rfl ⟨_, rfl, _, rfl, fun d nd => qw (fun h => by cases hb.mpr h) d H _ (.refl H) nd rfl⟩
    | true =>
    obtain ⟨y, rfl, ly, oy⟩ := hb.mp rfl
    obtain ⟨ch, rfl⟩ := sign_of ly
    have mc : ch ∈ cs r := oy ch (by rw [cs_one]; exact List.mem_singleton.mpr rfl)
    obtain ⟨kc, kn, kk⟩ := k ch rfl mc
    refine iteF ⟨_, rfl, s, _, dx, _, _, rfl, D.ins, T.cl_Session, T.no_Session__closed, sfs_closed, _, rfl, ?_⟩
    cases c with
    | true => exact iteC rfl (kc rfl H (.refl H))
    | false =>
    refine iteN rfl ?_
    obtain ⟨nM, rows, hM, pr⟩ := D.gr
    obtain ⟨row, hrow, hm⟩ := g.look lq mc
    obtain ⟨_, er, p, xr, rfl, np, hpr, st'⟩ := paired_get2 pr hrow
    obtain ⟨x, ex, sx⟩ := paired_get2 st' hm
    obtain ⟨xs, hP, en⟩ := D.hp
    refine ⟨_, rfl, s, _, dx, _, _, rfl, D.ins, T.cl_Session, T.no_Session__lines, sfs_lines, _, rfl, s, _, dx, _, _, rfl, D.ins, T.cl_Session, T.no_Session__states, sfs_states, _, rfl, S, _, _, _, rfl, rfl, .inl (.inl D.hs), atI_last _ _, M, rows, _, _, rfl, rfl, .inl (.inl hM), atI_nat er, _, rfl, s, _, dx, _, _, rfl, D.ins, T.cl_Session, T.no_Session__alphabet, sfs_alphabet, ⟨_, rfl⟩, _, rfl, r, ch, rfl, rfl, al.nodup, mc, p, xr, _, _, rfl, rfl, .inl (.inl hpr), atI_nat ex, ?_⟩
    refine ⟨_, rfl, rfl, _, rfl, ?_⟩
    cases hst : stpR (cs r) mv q ch with
    | none =>
      rw [hst] at sx
      obtain rfl : x = .non := sx
      exact iteC rfl ⟨_, rfl, _, rfl, fun d nd => kn rfl hst d H _ (.refl H) nd rfl⟩
    | some mm =>
      obtain ⟨w', t⟩ := mm
      rw [hst] at sx
      obtain ⟨a, rfl, ha⟩ := sx
      obtain ⟨ow', lw', t0, t1⟩ := g.step hst
      refine iteN rfl ?_
      have lxs := en.len
      refine ⟨_, rfl, s, _, dx, _, _, rfl, D.ins, T.cl_Session, T.no_Session__pushed, sfs_pushed, .inl ⟨rfl, _, .inl (.inl hP)⟩, _, rfl, _, rfl, _, _, _, _, rfl, rfl, .inl (.inl ha), rfl, by show 2 ≤ sizeLine; decide, fun tt ntt => ?_⟩
      have k1 := same_new (o := .tup [.str (⟨#[ch]⟩ : Str), .str w']) ntt
      have htt : (upd H tt (.tup [.str (⟨#[ch]⟩ : Str), .str w'])) tt = some (.tup [.str (⟨#[ch]⟩ : Str), .str w']) := upd_same
      generalize upd H tt (.tup [.str (⟨#[ch]⟩ : Str), .str w']) = H1 at k1 htt ⊢
      have hP1 := k1 _ _ hP
      refine ⟨P, _, _, rfl, rfl, hP1, Nat.lt_of_le_of_lt (by omega : _ ≤ 9000) (by decide), ?_⟩
      have b1 : ButL [P, S] H1 (upd H1 P (.lst (xs ++ [.ref tt]))) := ButL.put (by simp) hP1
      have hP2 : (upd H1 P (.lst (xs ++ [.ref tt]))) P = some (.lst (xs ++ [.ref tt])) := upd_same
      have hS2 : (upd H1 P (.lst (xs ++ [.ref tt]))) S = some (.lst (stL qs q)) := by rw [upd_ne (Ne.symm D.ne)]; exact k1 _ _ D.hs
      generalize upd H1 P (.lst (xs ++ [.ref tt])) = H2 at b1 hP2 hS2 ⊢
      have b2 : ButL [P, S] H H2 := (ButL.same k1).trans b1
      have ha2 := b2.tup ha
      have lqs := D.tk.len
      have D2 := b2.ins D.ins
      refine ⟨_, rfl, s, _, dx, _, _, rfl, D2, T.cl_Session, T.no_Session__states, sfs_states, .inl ⟨rfl, _, .inl (.inl hS2)⟩, _, rfl, _, _, _, _, rfl, rfl, .inl (.inl ha2), rfl, S, _, _, rfl, rfl, hS2, Nat.lt_of_le_of_lt (by unfold stL; rw [List.length_append, List.length_map, List.length_singleton]; omega : _ ≤ 9001) (by decide), ?_⟩
      have b3 : ButL [P, S] H2 (upd H2 S (.lst (stL qs q ++ [.int t]))) := ButL.put (by simp) hS2
      have hS3 : (upd H2 S (.lst (stL qs q ++ [.int t]))) S = some (.lst (stL (qs ++ [q]) t.toNat)) := by
        rw [upd_same]
        unfold stL
        rw [List.map_append, Int.toNat_of_nonneg t0]
        rfl
      have hP3 : (upd H2 S (.lst (stL qs q ++ [.int t]))) P = some (.lst (xs ++ [.ref tt])) := by rw [upd_ne D.ne]; exact hP2
      generalize upd H2 S (.lst (stL qs q ++ [.int t])) = H3 at b3 hS3 hP3 ⊢
      have b4 := b2.trans b3
      have ha3 := b4.tup ha
      have b5 : ButL (P :: S :: L) H H3 := b4.more fun b m => by
        simp only [List.mem_cons, List.not_mem_nil, or_false] at m ⊢
        exact m.imp id .inl
      have htt3 : H3 tt = some (.tup (pcV (ch, w'))) := (b1.trans b3).tup htt
      exact ⟨_, rfl, _, _, _, _, rfl, rfl, .inl (.inl ha3), rfl, kk rfl w' t hst H3 b4 ⟨b4.ins D.ins, D.gr.butl b5, b5.row D.hf D.nf, D.nf, ⟨_, hP3, paired_snoc (en.butl b4) ⟨tt, rfl, htt3⟩⟩, hS3, D.ne, D.nP, D.nS, .snoc D.tk mc hst, fun z => by cases z⟩⟩

def sp_answer [Tabl] (CS : Addr) (K : PySem.W.Frag) : Sp := fun vs H Q _ => ∃ (s dt : Addr) (d : Deed) (r z f : Str) (mv : Grid) (fin : List (Option Str)) (dx m M F P S : Addr) (ps : List (Nat × Str)) (qs : List Nat) (q : Nat) (c : Bool) (L : List Addr), vs = [.ref s, .ref dt] ∧ H dt = some (.tup (deedV d)) ∧ SeA CS L H s r f mv fin dx m M F P S ps qs q c ∧ GoodR r z f mv fin ∧ (∀ v, d = .push v → Shal H v) ∧ ps.length ≤ 8000 ∧
  ∀ zs ps' qs' q' c', Does (cs r) mv fin ps qs q c d zs ps' qs' q' c' → ∀ (l t : Addr) (H' : Hp), ButI s [P, S] H H' → SeA CS L H' s r f mv fin dx m M F P S ps' qs' q' c' → H' l = some (.lst [.ref t]) → H' t = some (.tup zs) → Q (.ref l) H'
theorem ok_answer (T : Txt K mg base) : FnOk P w K mg base CX0 (5 + 1) T.f_answer T.fd_answer ["session", "deed"] (sp_answer T.C_Session K) := by
  refine T.F_answer.ok sc_answer (fun vs H Q E h => ?_) (fun cdv A outer st H vs Q E hr h => ?_)
  · obtain ⟨s, dt, d, r, z, f, mv, fin, dx, m, M, F, P, S, ps, qs, q, c, L, rfl, _⟩ := h
    rfl
  · obtain ⟨s, dt, d, r, z, f, mv, fin, dx, m, M, F, P, S, ps, qs, q, c, L, rfl, hd, D0, g, sv, lp, k⟩ := h
    refine ⟨_, (pss_cons (ps_set (i := 2) sc_answer.nd rfl (.inl rfl) (pe_lst pa_nil))
      (pss_cons (ps_try_as (i := 3) (Wout := fun _ _ _ _ => False) rfl rfl sc_answer.nd rfl rfl ⟨rfl, by decide, Or.inl T.E_LagError.g⟩ LamX.takes0 (fun W pn xe tk _ => (pss_one (ps_if (pt_cmpR op_eq (pe_ix (ix_tupK K rfl) (pv 1) pe_int (fun _ _ => rfl)) pe_str (nomark _)) (pss_one (ps_expr (pe_bmK K rfl PySem.F.plainAttrs_list PySem.F.slot_list_append PySem.F.type_list_append mt_append (pv 2) (pa_cons (pe_tup (pa_cons pe_str (pa_cons (pe_methS (pv 0) T.cl_Session T.m_Session_push (ok_Session_push T) (hr.mono (by first | decide | exact Nat.le_refl _)) T.b_Session_push (fun σ => passAt tk σ) (pa_cons (pe_ix (ix_tupK K rfl) (pv 1) pe_int (fun _ _ => rfl)) pa_nil)) pa_nil))) pa_nil)))) (pss_one (ps_if (pt_cmpR op_eq (pe_ix (ix_tupK K rfl) (pv 1) pe_int (fun _ _ => rfl)) pe_str (nomark _)) (pss_one (ps_expr (pe_bmK K rfl PySem.F.plainAttrs_list PySem.F.slot_list_append PySem.F.type_list_append mt_append (pv 2) (pa_cons (pe_tup (pa_cons pe_str (pa_cons (pe_methS0 (pv 0) T.cl_Session T.m_Session_close (ok_Session_close T) (hr.mono (by first | decide | exact Nat.le_refl _)) T.b_Session_close (fun σ => passAt tk σ) ) pa_nil))) pa_nil)))) (pss_one (ps_expr (pe_bmK K rfl PySem.F.plainAttrs_list PySem.F.slot_list_append PySem.F.type_list_append mt_append (pv 2) (pa_cons (pe_tup (pa_cons pe_str (pa_cons (pe_methS0 (pv 0) T.cl_Session T.m_Session_back (ok_Session_back T) (hr.mono (by first | decide | exact Nat.le_refl _)) T.b_Session_back (fun σ => passAt tk σ) ) pa_nil))) pa_nil))))))))) (fun a oe cls d pn hz hf => suite_any hz hf))
      (pss_one (ps_ret (pv 2))))), ?_⟩
    refine ⟨by show 0 ≤ sizeLine; decide, fun D nD => ?_⟩
    have kD := same_new (o := .lst []) nD
    have hD1 : (upd H D (.lst [])) D = some (.lst []) := upd_same
    have D1 := (D0.more nD).same kD
    have hd1 := kD _ _ hd
    have DP : D ≠ P := fun e => by obtain ⟨xs, h, _⟩ := D0.hp; rw [← e, nD] at h; cases h
    have DS : D ≠ S := fun e => by have h := D0.hs; rw [← e, nD] at h; cases h
    have Ds : D ≠ s := fun e => by have h := D0.ins; rw [← e, nD] at h; cases h
    have nPS : D ∉ [P, S] := by simp [DP, DS]
    generalize upd H D (.lst []) = H1 at kD hD1 D1 hd1 ⊢
    have ne1 : ∀ {x y : Str}, decide (x = y) = false → decide (V.str x = V.str y) = false := fun h => decide_eq_false fun e => of_decide_eq_false h (V.str.inj e)
    cases d with
    | push v =>
      have s0 := sv v rfl
      refine ⟨_, rfl, _, _, _, _, rfl, rfl, .inl (.inl hd1), rfl, rfl, _, rfl, iteC (decide_eq_true rfl) ?_⟩
      refine ⟨_, rfl, .inl ⟨rfl, _, .inl (.inl hD1)⟩, _, rfl, s, dx, _, rfl, D1.ins, sfs_push, _, rfl, _, _, _, _, rfl, rfl, .inl (.inl hd1), rfl, s, r, z, f, mv, fin, dx, m, M, F, P, S, ps, qs, q, c, D :: L, v, rfl, D1, g, s0.same kD, by omega, fun no d1 H2 H3 s2 n2 e3 => ?_, fun ch e mc => ?_⟩
      · have hdd : H3 d1 = some (.xd [("value", v)]) := by rw [e3]; exact upd_same
        have s13 : Same H1 H3 := by rw [e3]; exact s2.trans (same_new n2)
        have nob : ¬ ∃ ch, ch ∈ cs r ∧ v = .str (⟨#[ch]⟩ : Str) := fun ⟨ch, mc, e⟩ => no ⟨_, e, rfl, Over.one mc⟩
        refine ⟨true, T.x_BadWord_LagError, fun _ a na => ?_, fun z => by cases z⟩
        intro oe pn hz hf
        have hD : H3 D = some (.lst []) := s13 _ _ hD1
        have nedd : d1 ≠ D := fun e => by
          rw [e, hD] at hdd
          cases hdd
        refine ⟨_, (pss_cons (ps_if (pt_not (pt_val (pe_callB (call_isD hz hf) (by rfl) T.z_isinstance (by decide +kernel) (pa_cons (pv 3) (pa_cons (pe_bltn (v := .ty "ValueError") (by rfl) T.z_ValueError (by decide +kernel) rfl) pa_nil))))) (pss_one (ps_expr (pe_bm PySem.F.plainAttrs_list PySem.F.slot_list_append PySem.F.type_list_append mt_append (pv 2) (pa_cons (pe_tup (pa_cons pe_str pa_nil)) pa_nil)))) pss_nil)
      (pss_cons (ps_if (pt_val (pe_callB (call_isD hz hf) (by rfl) T.z_isinstance (by decide +kernel) (pa_cons (pv 3) (pa_cons (pe_glob (v := .ref T.C_BadWord) (by rfl) T.E_BadWord.g rfl) pa_nil)))) (pss_one (ps_expr (pe_bm PySem.F.plainAttrs_list PySem.F.slot_list_append PySem.F.type_list_append mt_append (pv 2) (pa_cons (pe_tup (pa_cons pe_str (pa_cons (by exact pe_xf T.E_BadWord.f T.no_BadWord_value hz hf (pv 3)) pa_nil))) pa_nil)))) pss_nil)
      (pss_cons (ps_if (pt_val (pe_callB (call_isD hz hf) (by rfl) T.z_isinstance (by decide +kernel) (pa_cons (pv 3) (pa_cons (pe_glob (v := .ref T.C_Closed) (by rfl) T.E_Closed.g rfl) pa_nil)))) (pss_one (ps_expr (pe_bm PySem.F.plainAttrs_list PySem.F.slot_list_append PySem.F.type_list_append mt_append (pv 2) (pa_cons (pe_tup (pa_cons pe_str pa_nil)) pa_nil)))) pss_nil)
      (pss_cons (ps_if (pt_val (pe_callB (call_isD hz hf) (by rfl) T.z_isinstance (by decide +kernel) (pa_cons (pv 3) (pa_cons (pe_glob (v := .ref T.C_NoMove) (by rfl) T.E_NoMove.g rfl) pa_nil)))) (pss_one (ps_expr (pe_bm PySem.F.plainAttrs_list PySem.F.slot_list_append PySem.F.type_list_append mt_append (pv 2) (pa_cons (pe_tup (pa_cons pe_str (pa_cons (by exact pe_xf T.E_NoMove.f T.no_NoMove_letter hz hf (pv 3)) pa_nil))) pa_nil)))) pss_nil)
      (pss_cons (ps_if (pt_val (pe_callB (call_isD hz hf) (by rfl) T.z_isinstance (by decide +kernel) (pa_cons (pv 3) (pa_cons (pe_glob (v := .ref T.C_NotFinal) (by rfl) T.E_NotFinal.g rfl) pa_nil)))) (pss_one (ps_expr (pe_bm PySem.F.plainAttrs_list PySem.F.slot_list_append PySem.F.type_list_append mt_append (pv 2) (pa_cons (pe_tup (pa_cons pe_str pa_nil)) pa_nil)))) pss_nil)
      (pss_cons (ps_if (pt_val (pe_callB (call_isD hz hf) (by rfl) T.z_isinstance (by decide +kernel) (pa_cons (pv 3) (pa_cons (pe_glob (v := .ref T.C_NothingToUndo) (by rfl) T.E_NothingToUndo.g rfl) pa_nil)))) (pss_one (ps_expr (pe_bm PySem.F.plainAttrs_list PySem.F.slot_list_append PySem.F.type_list_append mt_append (pv 2) (pa_cons (pe_tup (pa_cons pe_str pa_nil)) pa_nil)))) pss_nil)
      (pss_one (ps_if (pt_val (pe_callB (call_isDT hz hf) (by rfl) T.z_isinstance (by decide +kernel) (pa_cons (pv 3) (pa_cons (pe_tup (pa_cons (pe_glob (v := .ref T.C_BadLetters) (by rfl) T.E_BadLetters.g rfl) (pa_cons (pe_glob (v := .ref T.C_BadNumber) (by rfl) T.E_BadNumber.g rfl) (pa_cons (pe_glob (v := .ref T.C_Mismatch) (by rfl) T.E_Mismatch.g rfl) (pa_cons (pe_glob (v := .ref T.C_TooLarge) (by rfl) T.E_TooLarge.g rfl) pa_nil))))) pa_nil)))) (pss_one (ps_expr (pe_bm PySem.F.plainAttrs_list PySem.F.slot_list_append PySem.F.type_list_append mt_append (pv 2) (pa_cons (pe_tup (pa_cons pe_str pa_nil)) pa_nil)))) pss_nil)))))))), ?_⟩
        refine ⟨_, rfl, _, _, _, true, rfl, T.E_BadWord.i, rfl, fun u r => r, fun x e => ⟨_, by cases e; exact hdd⟩, T.k_BadWord_ValueError, _, rfl, iteF ?_⟩
        refine ⟨_, rfl, _, _, _, true, rfl, T.E_BadWord.i, rfl, fun u r => r, fun x e => ⟨_, by cases e; exact hdd⟩, T.k_BadWord_BadWord, _, rfl, iteT ?_⟩
        refine ⟨_, rfl, .inl ⟨rfl, _, .inl (.inl hD)⟩, _, rfl, rfl, rfl, d1, _, v, rfl, hdd, rfl, by show 2 ≤ sizeLine; decide, fun t nt => ?_⟩
        have hD2 : (upd H3 t (.tup [.str (Str.ofString "BadWord"), v])) D = some (.lst []) := same_new nt _ _ hD
        refine ⟨D, _, _, rfl, rfl, hD2, by show 0 < sizeLine; decide, ?_⟩
        have tD : t ≠ D := fun e => by
          rw [e, hD] at nt
          cases nt
        have hd3 : (upd (upd H3 t (.tup [.str (Str.ofString "BadWord"), v])) D (.lst [.ref t])) d1 = some (.xd [("value", v)]) := by
          rw [upd_ne nedd]
          exact same_new nt _ _ hdd
        have hD3 : (upd (upd H3 t (.tup [.str (Str.ofString "BadWord"), v])) D (.lst [.ref t])) D = some (.lst [.ref t]) := upd_same
        have ht3 : (upd (upd H3 t (.tup [.str (Str.ofString "BadWord"), v])) D (.lst [.ref t])) t = some (.tup [.str (Str.ofString "BadWord"), v]) := by
          rw [upd_ne tD, upd_same]
        have sm3 : Same H (upd (upd H3 t (.tup [.str (Str.ofString "BadWord"), v])) D (.lst [.ref t])) := (Same.refl H).grown nD ((kD.trans s13).trans (same_new nt)) hD2
        refine ⟨_, rfl, _, _, _, false, rfl, T.E_BadWord.i, rfl, fun u r => r, fun x e => ⟨_, by cases e; exact hd3⟩, T.k_BadWord_Closed, _, rfl, iteF ?_⟩
        refine ⟨_, rfl, _, _, _, false, rfl, T.E_BadWord.i, rfl, fun u r => r, fun x e => ⟨_, by cases e; exact hd3⟩, T.k_BadWord_NoMove, _, rfl, iteF ?_⟩
        refine ⟨_, rfl, _, _, _, false, rfl, T.E_BadWord.i, rfl, fun u r => r, fun x e => ⟨_, by cases e; exact hd3⟩, T.k_BadWord_NotFinal, _, rfl, iteF ?_⟩
        refine ⟨_, rfl, _, _, _, false, rfl, T.E_BadWord.i, rfl, fun u r => r, fun x e => ⟨_, by cases e; exact hd3⟩, T.k_BadWord_NothingToUndo, _, rfl, iteF ?_⟩
        refine ⟨_, rfl, by show 4 ≤ sizeLine; decide, fun tp ntp => ?_⟩
        have k4 := same_new (o := .tup [.ref T.C_BadLetters, .ref T.C_BadNumber, .ref T.C_Mismatch, .ref T.C_TooLarge]) ntp
        have htp : (upd (upd (upd H3 t (.tup [.str (Str.ofString "BadWord"), v])) D (.lst [.ref t])) tp (.tup [.ref T.C_BadLetters, .ref T.C_BadNumber, .ref T.C_Mismatch, .ref T.C_TooLarge])) tp = some (.tup [.ref T.C_BadLetters, .ref T.C_BadNumber, .ref T.C_Mismatch, .ref T.C_TooLarge]) := upd_same
        have hd4 := k4 _ _ hd3
        refine ⟨_, _, _, _, false, rfl, T.E_BadWord.i, rfl, htp, .cons (.own _) (.cons (.own _) (.cons (.own _) (.cons (.own _) .nil))), fun x e => ⟨_, by cases e; exact hd4⟩, any_no T.k_BadWord_BadLetters (any_no T.k_BadWord_BadNumber (any_no T.k_BadWord_Mismatch (any_no T.k_BadWord_TooLarge any_end))), _, rfl, iteF ?_⟩
        exact ⟨_, rfl, k _ _ _ _ _ (.bad nob) D t _ (.same (sm3.trans k4)) (D0.same (sm3.trans k4)) (k4 _ _ hD3) (k4 _ _ ht3)⟩
      · subst e
        refine ⟨fun hc H3 s13 => ?_, fun hc hst d1 H2 H3 s2 n2 e3 => ?_, fun hc x t hst H2 b1 D2 => ⟨by show 2 ≤ sizeLine; decide, fun tt ntt => ?_⟩⟩
        · subst hc
          refine ⟨true, T.x_Closed_LagError, fun _ a na => ?_, fun z => by cases z⟩
          intro oe pn hz hf
          have hD : H3 D = some (.lst []) := s13 _ _ hD1
          refine ⟨_, (pss_cons (ps_if (pt_not (pt_val (pe_callB (call_isD hz hf) (by rfl) T.z_isinstance (by decide +kernel) (pa_cons (pv 3) (pa_cons (pe_bltn (v := .ty "ValueError") (by rfl) T.z_ValueError (by decide +kernel) rfl) pa_nil))))) (pss_one (ps_expr (pe_bm PySem.F.plainAttrs_list PySem.F.slot_list_append PySem.F.type_list_append mt_append (pv 2) (pa_cons (pe_tup (pa_cons pe_str pa_nil)) pa_nil)))) pss_nil)
      (pss_cons (ps_if (pt_val (pe_callB (call_isD hz hf) (by rfl) T.z_isinstance (by decide +kernel) (pa_cons (pv 3) (pa_cons (pe_glob (v := .ref T.C_BadWord) (by rfl) T.E_BadWord.g rfl) pa_nil)))) (pss_one (ps_expr (pe_bm PySem.F.plainAttrs_list PySem.F.slot_list_append PySem.F.type_list_append mt_append (pv 2) (pa_cons (pe_tup (pa_cons pe_str (pa_cons (by exact pe_xf T.E_BadWord.f T.no_BadWord_value hz hf (pv 3)) pa_nil))) pa_nil)))) pss_nil)
      (pss_cons (ps_if (pt_val (pe_callB (call_isD hz hf) (by rfl) T.z_isinstance (by decide +kernel) (pa_cons (pv 3) (pa_cons (pe_glob (v := .ref T.C_Closed) (by rfl) T.E_Closed.g rfl) pa_nil)))) (pss_one (ps_expr (pe_bm PySem.F.plainAttrs_list PySem.F.slot_list_append PySem.F.type_list_append mt_append (pv 2) (pa_cons (pe_tup (pa_cons pe_str pa_nil)) pa_nil)))) pss_nil)
      (pss_cons (ps_if (pt_val (pe_callB (call_isD hz hf) (by rfl) T.z_isinstance (by decide +kernel) (pa_cons (pv 3) (pa_cons (pe_glob (v := .ref T.C_NoMove) (by rfl) T.E_NoMove.g rfl) pa_nil)))) (pss_one (ps_expr (pe_bm PySem.F.plainAttrs_list PySem.F.slot_list_append PySem.F.type_list_append mt_append (pv 2) (pa_cons (pe_tup (pa_cons pe_str (pa_cons (by exact pe_xf T.E_NoMove.f T.no_NoMove_letter hz hf (pv 3)) pa_nil))) pa_nil)))) pss_nil)
      (pss_cons (ps_if (pt_val (pe_callB (call_isD hz hf) (by rfl) T.z_isinstance (by decide +kernel) (pa_cons (pv 3) (pa_cons (pe_glob (v := .ref T.C_NotFinal) (by rfl) T.E_NotFinal.g rfl) pa_nil)))) (pss_one (ps_expr (pe_bm PySem.F.plainAttrs_list PySem.F.slot_list_append PySem.F.type_list_append mt_append (pv 2) (pa_cons (pe_tup (pa_cons pe_str pa_nil)) pa_nil)))) pss_nil)
      (pss_cons (ps_if (pt_val (pe_callB (call_isD hz hf) (by rfl) T.z_isinstance (by decide +kernel) (pa_cons (pv 3) (pa_cons (pe_glob (v := .ref T.C_NothingToUndo) (by rfl) T.E_NothingToUndo.g rfl) pa_nil)))) (pss_one (ps_expr (pe_bm PySem.F.plainAttrs_list PySem.F.slot_list_append PySem.F.type_list_append mt_append (pv 2) (pa_cons (pe_tup (pa_cons pe_str pa_nil)) pa_nil)))) pss_nil)
      (pss_one (ps_if (pt_val (pe_callB (call_isDT hz hf) (by rfl) T.z_isinstance (by decide +kernel) (pa_cons (pv 3) (pa_cons (pe_tup (pa_cons (pe_glob (v := .ref T.C_BadLetters) (by rfl) T.E_BadLetters.g rfl) (pa_cons (pe_glob (v := .ref T.C_BadNumber) (by rfl) T.E_BadNumber.g rfl) (pa_cons (pe_glob (v := .ref T.C_Mismatch) (by rfl) T.E_Mismatch.g rfl) (pa_cons (pe_glob (v := .ref T.C_TooLarge) (by rfl) T.E_TooLarge.g rfl) pa_nil))))) pa_nil)))) (pss_one (ps_expr (pe_bm PySem.F.plainAttrs_list PySem.F.slot_list_append PySem.F.type_list_append mt_append (pv 2) (pa_cons (pe_tup (pa_cons pe_str pa_nil)) pa_nil)))) pss_nil)))))))), ?_⟩
          refine ⟨_, rfl, _, _, _, true, rfl, T.E_Closed.i, rfl, fun u r => r, (fun x e => by cases e), T.k_Closed_ValueError, _, rfl, iteF ?_⟩
          refine ⟨_, rfl, _, _, _, false, rfl, T.E_Closed.i, rfl, fun u r => r, (fun x e => by cases e), T.k_Closed_BadWord, _, rfl, iteF ?_⟩
          refine ⟨_, rfl, _, _, _, true, rfl, T.E_Closed.i, rfl, fun u r => r, (fun x e => by cases e), T.k_Closed_Closed, _, rfl, iteT ?_⟩
          refine ⟨_, rfl, .inl ⟨rfl, _, .inl (.inl hD)⟩, by show 1 ≤ sizeLine; decide, fun t nt => ?_⟩
          have hD2 : (upd H3 t (.tup [.str (Str.ofString "Closed")])) D = some (.lst []) := same_new nt _ _ hD
          refine ⟨D, _, _, rfl, rfl, hD2, by show 0 < sizeLine; decide, ?_⟩
          have tD : t ≠ D := fun e => by
            rw [e, hD] at nt
            cases nt
          have hD3 : (upd (upd H3 t (.tup [.str (Str.ofString "Closed")])) D (.lst [.ref t])) D = some (.lst [.ref t]) := upd_same
          have ht3 : (upd (upd H3 t (.tup [.str (Str.ofString "Closed")])) D (.lst [.ref t])) t = some (.tup [.str (Str.ofString "Closed")]) := by
            rw [upd_ne tD, upd_same]
          have sm3 : Same H (upd (upd H3 t (.tup [.str (Str.ofString "Closed")])) D (.lst [.ref t])) := (Same.refl H).grown nD ((kD.trans s13).trans (same_new nt)) hD2
          refine ⟨_, rfl, _, _, _, false, rfl, T.E_Closed.i, rfl, fun u r => r, (fun x e => by cases e), T.k_Closed_NoMove, _, rfl, iteF ?_⟩
          refine ⟨_, rfl, _, _, _, false, rfl, T.E_Closed.i, rfl, fun u r => r, (fun x e => by cases e), T.k_Closed_NotFinal, _, rfl, iteF ?_⟩
          refine ⟨_, rfl, _, _, _, false, rfl, T.E_Closed.i, rfl, fun u r => r, (fun x e => by cases e), T.k_Closed_NothingToUndo, _, rfl, iteF ?_⟩
          refine ⟨_, rfl, by show 4 ≤ sizeLine; decide, fun tp ntp => ?_⟩
          have k4 := same_new (o := .tup [.ref T.C_BadLetters, .ref T.C_BadNumber, .ref T.C_Mismatch, .ref T.C_TooLarge]) ntp
          have htp : (upd (upd (upd H3 t (.tup [.str (Str.ofString "Closed")])) D (.lst [.ref t])) tp (.tup [.ref T.C_BadLetters, .ref T.C_BadNumber, .ref T.C_Mismatch, .ref T.C_TooLarge])) tp = some (.tup [.ref T.C_BadLetters, .ref T.C_BadNumber, .ref T.C_Mismatch, .ref T.C_TooLarge]) := upd_same
          refine ⟨_, _, _, _, false, rfl, T.E_Closed.i, rfl, htp, .cons (.own _) (.cons (.own _) (.cons (.own _) (.cons (.own _) .nil))), (fun x e => by cases e), any_no T.k_Closed_BadLetters (any_no T.k_Closed_BadNumber (any_no T.k_Closed_Mismatch (any_no T.k_Closed_TooLarge any_end))), _, rfl, iteF ?_⟩
          exact ⟨_, rfl, k _ _ _ _ _ (.shut rfl mc) D t _ (.same (sm3.trans k4)) (D0.same (sm3.trans k4)) (k4 _ _ hD3) (k4 _ _ ht3)⟩
        · subst hc
          have hdd : H3 d1 = some (.xd [("letter", .str (⟨#[ch]⟩ : Str))]) := by rw [e3]; exact upd_same
          have s13 : Same H1 H3 := by rw [e3]; exact s2.trans (same_new n2)
          refine ⟨true, T.x_NoMove_LagError, fun _ a na => ?_, fun z => by cases z⟩
          intro oe pn hz hf
          have hD : H3 D = some (.lst []) := s13 _ _ hD1
          have nedd : d1 ≠ D := fun e => by
            rw [e, hD] at hdd
            cases hdd
          refine ⟨_, (pss_cons (ps_if (pt_not (pt_val (pe_callB (call_isD hz hf) (by rfl) T.z_isinstance (by decide +kernel) (pa_cons (pv 3) (pa_cons (pe_bltn (v := .ty "ValueError") (by rfl) T.z_ValueError (by decide +kernel) rfl) pa_nil))))) (pss_one (ps_expr (pe_bm PySem.F.plainAttrs_list PySem.F.slot_list_append PySem.F.type_list_append mt_append (pv 2) (pa_cons (pe_tup (pa_cons pe_str pa_nil)) pa_nil)))) pss_nil)
      (pss_cons (ps_if (pt_val (pe_callB (call_isD hz hf) (by rfl) T.z_isinstance (by decide +kernel) (pa_cons (pv 3) (pa_cons (pe_glob (v := .ref T.C_BadWord) (by rfl) T.E_BadWord.g rfl) pa_nil)))) (pss_one (ps_expr (pe_bm PySem.F.plainAttrs_list PySem.F.slot_list_append PySem.F.type_list_append mt_append (pv 2) (pa_cons (pe_tup (pa_cons pe_str (pa_cons (by exact pe_xf T.E_BadWord.f T.no_BadWord_value hz hf (pv 3)) pa_nil))) pa_nil)))) pss_nil)
      (pss_cons (ps_if (pt_val (pe_callB (call_isD hz hf) (by rfl) T.z_isinstance (by decide +kernel) (pa_cons (pv 3) (pa_cons (pe_glob (v := .ref T.C_Closed) (by rfl) T.E_Closed.g rfl) pa_nil)))) (pss_one (ps_expr (pe_bm PySem.F.plainAttrs_list PySem.F.slot_list_append PySem.F.type_list_append mt_append (pv 2) (pa_cons (pe_tup (pa_cons pe_str pa_nil)) pa_nil)))) pss_nil)
      (pss_cons (ps_if (pt_val (pe_callB (call_isD hz hf) (by rfl) T.z_isinstance (by decide +kernel) (pa_cons (pv 3) (pa_cons (pe_glob (v := .ref T.C_NoMove) (by rfl) T.E_NoMove.g rfl) pa_nil)))) (pss_one (ps_expr (pe_bm PySem.F.plainAttrs_list PySem.F.slot_list_append PySem.F.type_list_append mt_append (pv 2) (pa_cons (pe_tup (pa_cons pe_str (pa_cons (by exact pe_xf T.E_NoMove.f T.no_NoMove_letter hz hf (pv 3)) pa_nil))) pa_nil)))) pss_nil)
      (pss_cons (ps_if (pt_val (pe_callB (call_isD hz hf) (by rfl) T.z_isinstance (by decide +kernel) (pa_cons (pv 3) (pa_cons (pe_glob (v := .ref T.C_NotFinal) (by rfl) T.E_NotFinal.g rfl) pa_nil)))) (pss_one (ps_expr (pe_bm PySem.F.plainAttrs_list PySem.F.slot_list_append PySem.F.type_list_append mt_append (pv 2) (pa_cons (pe_tup (pa_cons pe_str pa_nil)) pa_nil)))) pss_nil)
      (pss_cons (ps_if (pt_val (pe_callB (call_isD hz hf) (by rfl) T.z_isinstance (by decide +kernel) (pa_cons (pv 3) (pa_cons (pe_glob (v := .ref T.C_NothingToUndo) (by rfl) T.E_NothingToUndo.g rfl) pa_nil)))) (pss_one (ps_expr (pe_bm PySem.F.plainAttrs_list PySem.F.slot_list_append PySem.F.type_list_append mt_append (pv 2) (pa_cons (pe_tup (pa_cons pe_str pa_nil)) pa_nil)))) pss_nil)
      (pss_one (ps_if (pt_val (pe_callB (call_isDT hz hf) (by rfl) T.z_isinstance (by decide +kernel) (pa_cons (pv 3) (pa_cons (pe_tup (pa_cons (pe_glob (v := .ref T.C_BadLetters) (by rfl) T.E_BadLetters.g rfl) (pa_cons (pe_glob (v := .ref T.C_BadNumber) (by rfl) T.E_BadNumber.g rfl) (pa_cons (pe_glob (v := .ref T.C_Mismatch) (by rfl) T.E_Mismatch.g rfl) (pa_cons (pe_glob (v := .ref T.C_TooLarge) (by rfl) T.E_TooLarge.g rfl) pa_nil))))) pa_nil)))) (pss_one (ps_expr (pe_bm PySem.F.plainAttrs_list PySem.F.slot_list_append PySem.F.type_list_append mt_append (pv 2) (pa_cons (pe_tup (pa_cons pe_str pa_nil)) pa_nil)))) pss_nil)))))))), ?_⟩
          refine ⟨_, rfl, _, _, _, true, rfl, T.E_NoMove.i, rfl, fun u r => r, fun x e => ⟨_, by cases e; exact hdd⟩, T.k_NoMove_ValueError, _, rfl, iteF ?_⟩
          refine ⟨_, rfl, _, _, _, false, rfl, T.E_NoMove.i, rfl, fun u r => r, fun x e => ⟨_, by cases e; exact hdd⟩, T.k_NoMove_BadWord, _, rfl, iteF ?_⟩
          refine ⟨_, rfl, _, _, _, false, rfl, T.E_NoMove.i, rfl, fun u r => r, fun x e => ⟨_, by cases e; exact hdd⟩, T.k_NoMove_Closed, _, rfl, iteF ?_⟩
          refine ⟨_, rfl, _, _, _, true, rfl, T.E_NoMove.i, rfl, fun u r => r, fun x e => ⟨_, by cases e; exact hdd⟩, T.k_NoMove_NoMove, _, rfl, iteT ?_⟩
          refine ⟨_, rfl, .inl ⟨rfl, _, .inl (.inl hD)⟩, _, rfl, rfl, rfl, d1, _, (.str (⟨#[ch]⟩ : Str)), rfl, hdd, rfl, by show 2 ≤ sizeLine; decide, fun t nt => ?_⟩
          have hD2 : (upd H3 t (.tup [.str (Str.ofString "NoMove"), (.str (⟨#[ch]⟩ : Str))])) D = some (.lst []) := same_new nt _ _ hD
          refine ⟨D, _, _, rfl, rfl, hD2, by show 0 < sizeLine; decide, ?_⟩
          have tD : t ≠ D := fun e => by
            rw [e, hD] at nt
            cases nt
          have hd3 : (upd (upd H3 t (.tup [.str (Str.ofString "NoMove"), (.str (⟨#[ch]⟩ : Str))])) D (.lst [.ref t])) d1 = some (.xd [("letter", (.str (⟨#[ch]⟩ : Str)))]) := by
            rw [upd_ne nedd]
            exact same_new nt _ _ hdd
          have hD3 : (upd (upd H3 t (.tup [.str (Str.ofString "NoMove"), (.str (⟨#[ch]⟩ : Str))])) D (.lst [.ref t])) D = some (.lst [.ref t]) := upd_same
          have ht3 : (upd (upd H3 t (.tup [.str (Str.ofString "NoMove"), (.str (⟨#[ch]⟩ : Str))])) D (.lst [.ref t])) t = some (.tup [.str (Str.ofString "NoMove"), (.str (⟨#[ch]⟩ : Str))]) := by
            rw [upd_ne tD, upd_same]
          have sm3 : Same H (upd (upd H3 t (.tup [.str (Str.ofString "NoMove"), (.str (⟨#[ch]⟩ : Str))])) D (.lst [.ref t])) := (Same.refl H).grown nD ((kD.trans s13).trans (same_new nt)) hD2
          refine ⟨_, rfl, _, _, _, false, rfl, T.E_NoMove.i, rfl, fun u r => r, fun x e => ⟨_, by cases e; exact hd3⟩, T.k_NoMove_NotFinal, _, rfl, iteF ?_⟩
          refine ⟨_, rfl, _, _, _, false, rfl, T.E_NoMove.i, rfl, fun u r => r, fun x e => ⟨_, by cases e; exact hd3⟩, T.k_NoMove_NothingToUndo, _, rfl, iteF ?_⟩
          refine ⟨_, rfl, by show 4 ≤ sizeLine; decide, fun tp ntp => ?_⟩
          have k4 := same_new (o := .tup [.ref T.C_BadLetters, .ref T.C_BadNumber, .ref T.C_Mismatch, .ref T.C_TooLarge]) ntp
          have htp : (upd (upd (upd H3 t (.tup [.str (Str.ofString "NoMove"), (.str (⟨#[ch]⟩ : Str))])) D (.lst [.ref t])) tp (.tup [.ref T.C_BadLetters, .ref T.C_BadNumber, .ref T.C_Mismatch, .ref T.C_TooLarge])) tp = some (.tup [.ref T.C_BadLetters, .ref T.C_BadNumber, .ref T.C_Mismatch, .ref T.C_TooLarge]) := upd_same
          have hd4 := k4 _ _ hd3
          refine ⟨_, _, _, _, false, rfl, T.E_NoMove.i, rfl, htp, .cons (.own _) (.cons (.own _) (.cons (.own _) (.cons (.own _) .nil))), fun x e => ⟨_, by cases e; exact hd4⟩, any_no T.k_NoMove_BadLetters (any_no T.k_NoMove_BadNumber (any_no T.k_NoMove_Mismatch (any_no T.k_NoMove_TooLarge any_end))), _, rfl, iteF ?_⟩
          exact ⟨_, rfl, k _ _ _ _ _ (.none rfl mc hst) D t _ (.same (sm3.trans k4)) (D0.same (sm3.trans k4)) (k4 _ _ hD3) (k4 _ _ ht3)⟩
        · subst hc
          have hD2 := b1.row hD1 nPS
          have kt := same_new (o := .tup [.str (Str.ofString "told"), .str x]) ntt
          have htt : (upd H2 tt (.tup [.str (Str.ofString "told"), .str x])) tt = some (.tup [.str (Str.ofString "told"), .str x]) := upd_same
          have hD3 := kt _ _ hD2
          refine ⟨D, _, _, rfl, rfl, hD3, by show 0 < sizeLine; decide, ?_⟩
          have ttD : tt ≠ D := fun e => by rw [e, hD2] at ntt; cases ntt
          have D3 := D2.same kt
          have bb := ((ButI.same kD (s := s) (L := [P, S])).trans (ButI.butl b1)).trans (.same kt)
          generalize upd H2 tt (.tup [.str (Str.ofString "told"), .str x]) = H3 at kt htt hD3 D3 bb ⊢
          have BD : But D H3 (upd H3 D (.lst [.ref tt])) := But.put hD3
          exact ⟨_, rfl, k _ _ _ _ _ (.push rfl mc hst rfl rfl rfl) D tt _ (bb.young BD nD (by rw [upd_same]; exact fun z => by cases z)) ((D3.but BD (by simp) hD3).weak fun b m => List.mem_cons_of_mem _ m) upd_same (by rw [upd_ne ttD]; exact htt)⟩
    | close =>
      refine ⟨_, rfl, _, _, _, _, rfl, rfl, .inl (.inl hd1), rfl, rfl, _, rfl, iteN (ne1 (by decide +kernel)) ?_⟩
      refine ⟨_, rfl, _, _, _, _, rfl, rfl, .inl (.inl hd1), rfl, rfl, _, rfl, iteC (decide_eq_true rfl) ?_⟩
      refine ⟨_, rfl, .inl ⟨rfl, _, .inl (.inl hD1)⟩, _, rfl, s, dx, _, rfl, D1.ins, sfs_close, s, r, z, f, mv, fin, dx, m, M, F, P, S, ps, qs, q, c, D :: L, rfl, D1, g, fun hc H3 s13 => ?_, fun hc hn H3 s13 => ?_, fun hc x hx H2 B2 D2 => ⟨by show 2 ≤ sizeLine; decide, fun tt ntt => ?_⟩⟩
      · subst hc
        refine ⟨true, T.x_Closed_LagError, fun _ a na => ?_, fun z => by cases z⟩
        intro oe pn hz hf
        have hD : H3 D = some (.lst []) := s13 _ _ hD1
        refine ⟨_, (pss_cons (ps_if (pt_not (pt_val (pe_callB (call_isD hz hf) (by rfl) T.z_isinstance (by decide +kernel) (pa_cons (pv 3) (pa_cons (pe_bltn (v := .ty "ValueError") (by rfl) T.z_ValueError (by decide +kernel) rfl) pa_nil))))) (pss_one (ps_expr (pe_bm PySem.F.plainAttrs_list PySem.F.slot_list_append PySem.F.type_list_append mt_append (pv 2) (pa_cons (pe_tup (pa_cons pe_str pa_nil)) pa_nil)))) pss_nil)
      (pss_cons (ps_if (pt_val (pe_callB (call_isD hz hf) (by rfl) T.z_isinstance (by decide +kernel) (pa_cons (pv 3) (pa_cons (pe_glob (v := .ref T.C_BadWord) (by rfl) T.E_BadWord.g rfl) pa_nil)))) (pss_one (ps_expr (pe_bm PySem.F.plainAttrs_list PySem.F.slot_list_append PySem.F.type_list_append mt_append (pv 2) (pa_cons (pe_tup (pa_cons pe_str (pa_cons (by exact pe_xf T.E_BadWord.f T.no_BadWord_value hz hf (pv 3)) pa_nil))) pa_nil)))) pss_nil)
      (pss_cons (ps_if (pt_val (pe_callB (call_isD hz hf) (by rfl) T.z_isinstance (by decide +kernel) (pa_cons (pv 3) (pa_cons (pe_glob (v := .ref T.C_Closed) (by rfl) T.E_Closed.g rfl) pa_nil)))) (pss_one (ps_expr (pe_bm PySem.F.plainAttrs_list PySem.F.slot_list_append PySem.F.type_list_append mt_append (pv 2) (pa_cons (pe_tup (pa_cons pe_str pa_nil)) pa_nil)))) pss_nil)
      (pss_cons (ps_if (pt_val (pe_callB (call_isD hz hf) (by rfl) T.z_isinstance (by decide +kernel) (pa_cons (pv 3) (pa_cons (pe_glob (v := .ref T.C_NoMove) (by rfl) T.E_NoMove.g rfl) pa_nil)))) (pss_one (ps_expr (pe_bm PySem.F.plainAttrs_list PySem.F.slot_list_append PySem.F.type_list_append mt_append (pv 2) (pa_cons (pe_tup (pa_cons pe_str (pa_cons (by exact pe_xf T.E_NoMove.f T.no_NoMove_letter hz hf (pv 3)) pa_nil))) pa_nil)))) pss_nil)
      (pss_cons (ps_if (pt_val (pe_callB (call_isD hz hf) (by rfl) T.z_isinstance (by decide +kernel) (pa_cons (pv 3) (pa_cons (pe_glob (v := .ref T.C_NotFinal) (by rfl) T.E_NotFinal.g rfl) pa_nil)))) (pss_one (ps_expr (pe_bm PySem.F.plainAttrs_list PySem.F.slot_list_append PySem.F.type_list_append mt_append (pv 2) (pa_cons (pe_tup (pa_cons pe_str pa_nil)) pa_nil)))) pss_nil)
      (pss_cons (ps_if (pt_val (pe_callB (call_isD hz hf) (by rfl) T.z_isinstance (by decide +kernel) (pa_cons (pv 3) (pa_cons (pe_glob (v := .ref T.C_NothingToUndo) (by rfl) T.E_NothingToUndo.g rfl) pa_nil)))) (pss_one (ps_expr (pe_bm PySem.F.plainAttrs_list PySem.F.slot_list_append PySem.F.type_list_append mt_append (pv 2) (pa_cons (pe_tup (pa_cons pe_str pa_nil)) pa_nil)))) pss_nil)
      (pss_one (ps_if (pt_val (pe_callB (call_isDT hz hf) (by rfl) T.z_isinstance (by decide +kernel) (pa_cons (pv 3) (pa_cons (pe_tup (pa_cons (pe_glob (v := .ref T.C_BadLetters) (by rfl) T.E_BadLetters.g rfl) (pa_cons (pe_glob (v := .ref T.C_BadNumber) (by rfl) T.E_BadNumber.g rfl) (pa_cons (pe_glob (v := .ref T.C_Mismatch) (by rfl) T.E_Mismatch.g rfl) (pa_cons (pe_glob (v := .ref T.C_TooLarge) (by rfl) T.E_TooLarge.g rfl) pa_nil))))) pa_nil)))) (pss_one (ps_expr (pe_bm PySem.F.plainAttrs_list PySem.F.slot_list_append PySem.F.type_list_append mt_append (pv 2) (pa_cons (pe_tup (pa_cons pe_str pa_nil)) pa_nil)))) pss_nil)))))))), ?_⟩
        refine ⟨_, rfl, _, _, _, true, rfl, T.E_Closed.i, rfl, fun u r => r, (fun x e => by cases e), T.k_Closed_ValueError, _, rfl, iteF ?_⟩
        refine ⟨_, rfl, _, _, _, false, rfl, T.E_Closed.i, rfl, fun u r => r, (fun x e => by cases e), T.k_Closed_BadWord, _, rfl, iteF ?_⟩
        refine ⟨_, rfl, _, _, _, true, rfl, T.E_Closed.i, rfl, fun u r => r, (fun x e => by cases e), T.k_Closed_Closed, _, rfl, iteT ?_⟩
        refine ⟨_, rfl, .inl ⟨rfl, _, .inl (.inl hD)⟩, by show 1 ≤ sizeLine; decide, fun t nt => ?_⟩
        have hD2 : (upd H3 t (.tup [.str (Str.ofString "Closed")])) D = some (.lst []) := same_new nt _ _ hD
        refine ⟨D, _, _, rfl, rfl, hD2, by show 0 < sizeLine; decide, ?_⟩
        have tD : t ≠ D := fun e => by
          rw [e, hD] at nt
          cases nt
        have hD3 : (upd (upd H3 t (.tup [.str (Str.ofString "Closed")])) D (.lst [.ref t])) D = some (.lst [.ref t]) := upd_same
        have ht3 : (upd (upd H3 t (.tup [.str (Str.ofString "Closed")])) D (.lst [.ref t])) t = some (.tup [.str (Str.ofString "Closed")]) := by
          rw [upd_ne tD, upd_same]
        have sm3 : Same H (upd (upd H3 t (.tup [.str (Str.ofString "Closed")])) D (.lst [.ref t])) := (Same.refl H).grown nD ((kD.trans s13).trans (same_new nt)) hD2
        refine ⟨_, rfl, _, _, _, false, rfl, T.E_Closed.i, rfl, fun u r => r, (fun x e => by cases e), T.k_Closed_NoMove, _, rfl, iteF ?_⟩
        refine ⟨_, rfl, _, _, _, false, rfl, T.E_Closed.i, rfl, fun u r => r, (fun x e => by cases e), T.k_Closed_NotFinal, _, rfl, iteF ?_⟩
        refine ⟨_, rfl, _, _, _, false, rfl, T.E_Closed.i, rfl, fun u r => r, (fun x e => by cases e), T.k_Closed_NothingToUndo, _, rfl, iteF ?_⟩
        refine ⟨_, rfl, by show 4 ≤ sizeLine; decide, fun tp ntp => ?_⟩
        have k4 := same_new (o := .tup [.ref T.C_BadLetters, .ref T.C_BadNumber, .ref T.C_Mismatch, .ref T.C_TooLarge]) ntp
        have htp : (upd (upd (upd H3 t (.tup [.str (Str.ofString "Closed")])) D (.lst [.ref t])) tp (.tup [.ref T.C_BadLetters, .ref T.C_BadNumber, .ref T.C_Mismatch, .ref T.C_TooLarge])) tp = some (.tup [.ref T.C_BadLetters, .ref T.C_BadNumber, .ref T.C_Mismatch, .ref T.C_TooLarge]) := upd_same
        refine ⟨_, _, _, _, false, rfl, T.E_Closed.i, rfl, htp, .cons (.own _) (.cons (.own _) (.cons (.own _) (.cons (.own _) .nil))), (fun x e => by cases e), any_no T.k_Closed_BadLetters (any_no T.k_Closed_BadNumber (any_no T.k_Closed_Mismatch (any_no T.k_Closed_TooLarge any_end))), _, rfl, iteF ?_⟩
        exact ⟨_, rfl, k _ _ _ _ _ .closed D t _ (.same (sm3.trans k4)) (D0.same (sm3.trans k4)) (k4 _ _ hD3) (k4 _ _ ht3)⟩
      · subst hc
        refine ⟨true, T.x_NotFinal_LagError, fun _ a na => ?_, fun z => by cases z⟩
        intro oe pn hz hf
        have hD : H3 D = some (.lst []) := s13 _ _ hD1
        refine ⟨_, (pss_cons (ps_if (pt_not (pt_val (pe_callB (call_isD hz hf) (by rfl) T.z_isinstance (by decide +kernel) (pa_cons (pv 3) (pa_cons (pe_bltn (v := .ty "ValueError") (by rfl) T.z_ValueError (by decide +kernel) rfl) pa_nil))))) (pss_one (ps_expr (pe_bm PySem.F.plainAttrs_list PySem.F.slot_list_append PySem.F.type_list_append mt_append (pv 2) (pa_cons (pe_tup (pa_cons pe_str pa_nil)) pa_nil)))) pss_nil)
      (pss_cons (ps_if (pt_val (pe_callB (call_isD hz hf) (by rfl) T.z_isinstance (by decide +kernel) (pa_cons (pv 3) (pa_cons (pe_glob (v := .ref T.C_BadWord) (by rfl) T.E_BadWord.g rfl) pa_nil)))) (pss_one (ps_expr (pe_bm PySem.F.plainAttrs_list PySem.F.slot_list_append PySem.F.type_list_append mt_append (pv 2) (pa_cons (pe_tup (pa_cons pe_str (pa_cons (by exact pe_xf T.E_BadWord.f T.no_BadWord_value hz hf (pv 3)) pa_nil))) pa_nil)))) pss_nil)
      (pss_cons (ps_if (pt_val (pe_callB (call_isD hz hf) (by rfl) T.z_isinstance (by decide +kernel) (pa_cons (pv 3) (pa_cons (pe_glob (v := .ref T.C_Closed) (by rfl) T.E_Closed.g rfl) pa_nil)))) (pss_one (ps_expr (pe_bm PySem.F.plainAttrs_list PySem.F.slot_list_append PySem.F.type_list_append mt_append (pv 2) (pa_cons (pe_tup (pa_cons pe_str pa_nil)) pa_nil)))) pss_nil)
      (pss_cons (ps_if (pt_val (pe_callB (call_isD hz hf) (by rfl) T.z_isinstance (by decide +kernel) (pa_cons (pv 3) (pa_cons (pe_glob (v := .ref T.C_NoMove) (by rfl) T.E_NoMove.g rfl) pa_nil)))) (pss_one (ps_expr (pe_bm PySem.F.plainAttrs_list PySem.F.slot_list_append PySem.F.type_list_append mt_append (pv 2) (pa_cons (pe_tup (pa_cons pe_str (pa_cons (by exact pe_xf T.E_NoMove.f T.no_NoMove_letter hz hf (pv 3)) pa_nil))) pa_nil)))) pss_nil)
      (pss_cons (ps_if (pt_val (pe_callB (call_isD hz hf) (by rfl) T.z_isinstance (by decide +kernel) (pa_cons (pv 3) (pa_cons (pe_glob (v := .ref T.C_NotFinal) (by rfl) T.E_NotFinal.g rfl) pa_nil)))) (pss_one (ps_expr (pe_bm PySem.F.plainAttrs_list PySem.F.slot_list_append PySem.F.type_list_append mt_append (pv 2) (pa_cons (pe_tup (pa_cons pe_str pa_nil)) pa_nil)))) pss_nil)
      (pss_cons (ps_if (pt_val (pe_callB (call_isD hz hf) (by rfl) T.z_isinstance (by decide +kernel) (pa_cons (pv 3) (pa_cons (pe_glob (v := .ref T.C_NothingToUndo) (by rfl) T.E_NothingToUndo.g rfl) pa_nil)))) (pss_one (ps_expr (pe_bm PySem.F.plainAttrs_list PySem.F.slot_list_append PySem.F.type_list_append mt_append (pv 2) (pa_cons (pe_tup (pa_cons pe_str pa_nil)) pa_nil)))) pss_nil)
      (pss_one (ps_if (pt_val (pe_callB (call_isDT hz hf) (by rfl) T.z_isinstance (by decide +kernel) (pa_cons (pv 3) (pa_cons (pe_tup (pa_cons (pe_glob (v := .ref T.C_BadLetters) (by rfl) T.E_BadLetters.g rfl) (pa_cons (pe_glob (v := .ref T.C_BadNumber) (by rfl) T.E_BadNumber.g rfl) (pa_cons (pe_glob (v := .ref T.C_Mismatch) (by rfl) T.E_Mismatch.g rfl) (pa_cons (pe_glob (v := .ref T.C_TooLarge) (by rfl) T.E_TooLarge.g rfl) pa_nil))))) pa_nil)))) (pss_one (ps_expr (pe_bm PySem.F.plainAttrs_list PySem.F.slot_list_append PySem.F.type_list_append mt_append (pv 2) (pa_cons (pe_tup (pa_cons pe_str pa_nil)) pa_nil)))) pss_nil)))))))), ?_⟩
        refine ⟨_, rfl, _, _, _, true, rfl, T.E_NotFinal.i, rfl, fun u r => r, (fun x e => by cases e), T.k_NotFinal_ValueError, _, rfl, iteF ?_⟩
        refine ⟨_, rfl, _, _, _, false, rfl, T.E_NotFinal.i, rfl, fun u r => r, (fun x e => by cases e), T.k_NotFinal_BadWord, _, rfl, iteF ?_⟩
        refine ⟨_, rfl, _, _, _, false, rfl, T.E_NotFinal.i, rfl, fun u r => r, (fun x e => by cases e), T.k_NotFinal_Closed, _, rfl, iteF ?_⟩
        refine ⟨_, rfl, _, _, _, false, rfl, T.E_NotFinal.i, rfl, fun u r => r, (fun x e => by cases e), T.k_NotFinal_NoMove, _, rfl, iteF ?_⟩
        refine ⟨_, rfl, _, _, _, true, rfl, T.E_NotFinal.i, rfl, fun u r => r, (fun x e => by cases e), T.k_NotFinal_NotFinal, _, rfl, iteT ?_⟩
        refine ⟨_, rfl, .inl ⟨rfl, _, .inl (.inl hD)⟩, by show 1 ≤ sizeLine; decide, fun t nt => ?_⟩
        have hD2 : (upd H3 t (.tup [.str (Str.ofString "NotFinal")])) D = some (.lst []) := same_new nt _ _ hD
        refine ⟨D, _, _, rfl, rfl, hD2, by show 0 < sizeLine; decide, ?_⟩
        have tD : t ≠ D := fun e => by
          rw [e, hD] at nt
          cases nt
        have hD3 : (upd (upd H3 t (.tup [.str (Str.ofString "NotFinal")])) D (.lst [.ref t])) D = some (.lst [.ref t]) := upd_same
        have ht3 : (upd (upd H3 t (.tup [.str (Str.ofString "NotFinal")])) D (.lst [.ref t])) t = some (.tup [.str (Str.ofString "NotFinal")]) := by
          rw [upd_ne tD, upd_same]
        have sm3 : Same H (upd (upd H3 t (.tup [.str (Str.ofString "NotFinal")])) D (.lst [.ref t])) := (Same.refl H).grown nD ((kD.trans s13).trans (same_new nt)) hD2
        refine ⟨_, rfl, _, _, _, false, rfl, T.E_NotFinal.i, rfl, fun u r => r, (fun x e => by cases e), T.k_NotFinal_NothingToUndo, _, rfl, iteF ?_⟩
        refine ⟨_, rfl, by show 4 ≤ sizeLine; decide, fun tp ntp => ?_⟩
        have k4 := same_new (o := .tup [.ref T.C_BadLetters, .ref T.C_BadNumber, .ref T.C_Mismatch, .ref T.C_TooLarge]) ntp
        have htp : (upd (upd (upd H3 t (.tup [.str (Str.ofString "NotFinal")])) D (.lst [.ref t])) tp (.tup [.ref T.C_BadLetters, .ref T.C_BadNumber, .ref T.C_Mismatch, .ref T.C_TooLarge])) tp = some (.tup [.ref T.C_BadLetters, .ref T.C_BadNumber, .ref T.C_Mismatch, .ref T.C_TooLarge]) := upd_same
        refine ⟨_, _, _, _, false, rfl, T.E_NotFinal.i, rfl, htp, .cons (.own _) (.cons (.own _) (.cons (.own _) (.cons (.own _) .nil))), (fun x e => by cases e), any_no T.k_NotFinal_BadLetters (any_no T.k_NotFinal_BadNumber (any_no T.k_NotFinal_Mismatch (any_no T.k_NotFinal_TooLarge any_end))), _, rfl, iteF ?_⟩
        exact ⟨_, rfl, k _ _ _ _ _ (.open_ hn) D t _ (.same (sm3.trans k4)) (D0.same (sm3.trans k4)) (k4 _ _ hD3) (k4 _ _ ht3)⟩
      · subst hc
        have hD2 := B2 _ _ Ds hD1
        have kt := same_new (o := .tup [.str (Str.ofString "told"), .str x]) ntt
        have htt : (upd H2 tt (.tup [.str (Str.ofString "told"), .str x])) tt = some (.tup [.str (Str.ofString "told"), .str x]) := upd_same
        have hD3 := kt _ _ hD2
        refine ⟨D, _, _, rfl, rfl, hD3, by show 0 < sizeLine; decide, ?_⟩
        have ttD : tt ≠ D := fun e => by rw [e, hD2] at ntt; cases ntt
        have D3 := D2.same kt
        have bb := ((ButI.same kD (s := s) (L := [P, S])).trans (ButI.but B2 D1.ins (by rw [D2.ins]; exact fun z => by cases z))).trans (.same kt)
        generalize upd H2 tt (.tup [.str (Str.ofString "told"), .str x]) = H3 at kt htt hD3 D3 bb ⊢
        have BD : But D H3 (upd H3 D (.lst [.ref tt])) := But.put hD3
        exact ⟨_, rfl, k _ _ _ _ _ (.close hx) D tt _ (bb.young BD nD (by rw [upd_same]; exact fun z => by cases z)) ((D3.but BD (by simp) hD3).weak fun b m => List.mem_cons_of_mem _ m) upd_same (by rw [upd_ne ttD]; exact htt)⟩
    | back =>
      refine ⟨_, rfl, _, _, _, _, rfl, rfl, .inl (.inl hd1), rfl, rfl, _, rfl, iteN (ne1 (by decide +kernel)) ?_⟩
      refine ⟨_, rfl, _, _, _, _, rfl, rfl, .inl (.inl hd1), rfl, rfl, _, rfl, iteN (ne1 (by decide +kernel)) ?_⟩
      refine ⟨_, rfl, .inl ⟨rfl, _, .inl (.inl hD1)⟩, _, rfl, s, dx, _, rfl, D1.ins, sfs_back, s, r, z, f, mv, fin, dx, m, M, F, P, S, ps, qs, q, c, D :: L, rfl, D1, g, by omega, fun hc H2 B2 D2 => ⟨by show 2 ≤ sizeLine; decide, fun tt ntt => ?_⟩, fun hc hp H3 s13 => ?_, fun hc ps' ch x qs' q' e1 e2 H2 b1 D2 => ⟨by show 2 ≤ sizeLine; decide, fun tt ntt => ?_⟩⟩
      · subst hc
        have hD2 := B2 _ _ Ds hD1
        have kt := same_new (o := .tup [.str (Str.ofString "told"), .str (Str.ofString "")]) ntt
        have htt : (upd H2 tt (.tup [.str (Str.ofString "told"), .str (Str.ofString "")])) tt = some (.tup [.str (Str.ofString "told"), .str (Str.ofString "")]) := upd_same
        have hD3 := kt _ _ hD2
        refine ⟨D, _, _, rfl, rfl, hD3, by show 0 < sizeLine; decide, ?_⟩
        have ttD : tt ≠ D := fun e => by rw [e, hD2] at ntt; cases ntt
        have D3 := D2.same kt
        have bb := ((ButI.same kD (s := s) (L := [P, S])).trans (ButI.but B2 D1.ins (by rw [D2.ins]; exact fun z => by cases z))).trans (.same kt)
        generalize upd H2 tt (.tup [.str (Str.ofString "told"), .str (Str.ofString "")]) = H3 at kt htt hD3 D3 bb ⊢
        have BD : But D H3 (upd H3 D (.lst [.ref tt])) := But.put hD3
        exact ⟨_, rfl, k _ _ _ _ _ .reopen D tt _ (bb.young BD nD (by rw [upd_same]; exact fun z => by cases z)) ((D3.but BD (by simp) hD3).weak fun b m => List.mem_cons_of_mem _ m) upd_same (by rw [upd_ne ttD]; exact htt)⟩
      · subst hc
        subst hp
        refine ⟨true, T.x_NothingToUndo_LagError, fun _ a na => ?_, fun z => by cases z⟩
        intro oe pn hz hf
        have hD : H3 D = some (.lst []) := s13 _ _ hD1
        refine ⟨_, (pss_cons (ps_if (pt_not (pt_val (pe_callB (call_isD hz hf) (by rfl) T.z_isinstance (by decide +kernel) (pa_cons (pv 3) (pa_cons (pe_bltn (v := .ty "ValueError") (by rfl) T.z_ValueError (by decide +kernel) rfl) pa_nil))))) (pss_one (ps_expr (pe_bm PySem.F.plainAttrs_list PySem.F.slot_list_append PySem.F.type_list_append mt_append (pv 2) (pa_cons (pe_tup (pa_cons pe_str pa_nil)) pa_nil)))) pss_nil)
      (pss_cons (ps_if (pt_val (pe_callB (call_isD hz hf) (by rfl) T.z_isinstance (by decide +kernel) (pa_cons (pv 3) (pa_cons (pe_glob (v := .ref T.C_BadWord) (by rfl) T.E_BadWord.g rfl) pa_nil)))) (pss_one (ps_expr (pe_bm PySem.F.plainAttrs_list PySem.F.slot_list_append PySem.F.type_list_append mt_append (pv 2) (pa_cons (pe_tup (pa_cons pe_str (pa_cons (by exact pe_xf T.E_BadWord.f T.no_BadWord_value hz hf (pv 3)) pa_nil))) pa_nil)))) pss_nil)
      (pss_cons (ps_if (pt_val (pe_callB (call_isD hz hf) (by rfl) T.z_isinstance (by decide +kernel) (pa_cons (pv 3) (pa_cons (pe_glob (v := .ref T.C_Closed) (by rfl) T.E_Closed.g rfl) pa_nil)))) (pss_one (ps_expr (pe_bm PySem.F.plainAttrs_list PySem.F.slot_list_append PySem.F.type_list_append mt_append (pv 2) (pa_cons (pe_tup (pa_cons pe_str pa_nil)) pa_nil)))) pss_nil)
      (pss_cons (ps_if (pt_val (pe_callB (call_isD hz hf) (by rfl) T.z_isinstance (by decide +kernel) (pa_cons (pv 3) (pa_cons (pe_glob (v := .ref T.C_NoMove) (by rfl) T.E_NoMove.g rfl) pa_nil)))) (pss_one (ps_expr (pe_bm PySem.F.plainAttrs_list PySem.F.slot_list_append PySem.F.type_list_append mt_append (pv 2) (pa_cons (pe_tup (pa_cons pe_str (pa_cons (by exact pe_xf T.E_NoMove.f T.no_NoMove_letter hz hf (pv 3)) pa_nil))) pa_nil)))) pss_nil)
      (pss_cons (ps_if (pt_val (pe_callB (call_isD hz hf) (by rfl) T.z_isinstance (by decide +kernel) (pa_cons (pv 3) (pa_cons (pe_glob (v := .ref T.C_NotFinal) (by rfl) T.E_NotFinal.g rfl) pa_nil)))) (pss_one (ps_expr (pe_bm PySem.F.plainAttrs_list PySem.F.slot_list_append PySem.F.type_list_append mt_append (pv 2) (pa_cons (pe_tup (pa_cons pe_str pa_nil)) pa_nil)))) pss_nil)
      (pss_cons (ps_if (pt_val (pe_callB (call_isD hz hf) (by rfl) T.z_isinstance (by decide +kernel) (pa_cons (pv 3) (pa_cons (pe_glob (v := .ref T.C_NothingToUndo) (by rfl) T.E_NothingToUndo.g rfl) pa_nil)))) (pss_one (ps_expr (pe_bm PySem.F.plainAttrs_list PySem.F.slot_list_append PySem.F.type_list_append mt_append (pv 2) (pa_cons (pe_tup (pa_cons pe_str pa_nil)) pa_nil)))) pss_nil)
      (pss_one (ps_if (pt_val (pe_callB (call_isDT hz hf) (by rfl) T.z_isinstance (by decide +kernel) (pa_cons (pv 3) (pa_cons (pe_tup (pa_cons (pe_glob (v := .ref T.C_BadLetters) (by rfl) T.E_BadLetters.g rfl) (pa_cons (pe_glob (v := .ref T.C_BadNumber) (by rfl) T.E_BadNumber.g rfl) (pa_cons (pe_glob (v := .ref T.C_Mismatch) (by rfl) T.E_Mismatch.g rfl) (pa_cons (pe_glob (v := .ref T.C_TooLarge) (by rfl) T.E_TooLarge.g rfl) pa_nil))))) pa_nil)))) (pss_one (ps_expr (pe_bm PySem.F.plainAttrs_list PySem.F.slot_list_append PySem.F.type_list_append mt_append (pv 2) (pa_cons (pe_tup (pa_cons pe_str pa_nil)) pa_nil)))) pss_nil)))))))), ?_⟩
        refine ⟨_, rfl, _, _, _, true, rfl, T.E_NothingToUndo.i, rfl, fun u r => r, (fun x e => by cases e), T.k_NothingToUndo_ValueError, _, rfl, iteF ?_⟩
        refine ⟨_, rfl, _, _, _, false, rfl, T.E_NothingToUndo.i, rfl, fun u r => r, (fun x e => by cases e), T.k_NothingToUndo_BadWord, _, rfl, iteF ?_⟩
        refine ⟨_, rfl, _, _, _, false, rfl, T.E_NothingToUndo.i, rfl, fun u r => r, (fun x e => by cases e), T.k_NothingToUndo_Closed, _, rfl, iteF ?_⟩
        refine ⟨_, rfl, _, _, _, false, rfl, T.E_NothingToUndo.i, rfl, fun u r => r, (fun x e => by cases e), T.k_NothingToUndo_NoMove, _, rfl, iteF ?_⟩
        refine ⟨_, rfl, _, _, _, false, rfl, T.E_NothingToUndo.i, rfl, fun u r => r, (fun x e => by cases e), T.k_NothingToUndo_NotFinal, _, rfl, iteF ?_⟩
        refine ⟨_, rfl, _, _, _, true, rfl, T.E_NothingToUndo.i, rfl, fun u r => r, (fun x e => by cases e), T.k_NothingToUndo_NothingToUndo, _, rfl, iteT ?_⟩
        refine ⟨_, rfl, .inl ⟨rfl, _, .inl (.inl hD)⟩, by show 1 ≤ sizeLine; decide, fun t nt => ?_⟩
        have hD2 : (upd H3 t (.tup [.str (Str.ofString "NothingToUndo")])) D = some (.lst []) := same_new nt _ _ hD
        refine ⟨D, _, _, rfl, rfl, hD2, by show 0 < sizeLine; decide, ?_⟩
        have tD : t ≠ D := fun e => by
          rw [e, hD] at nt
          cases nt
        have hD3 : (upd (upd H3 t (.tup [.str (Str.ofString "NothingToUndo")])) D (.lst [.ref t])) D = some (.lst [.ref t]) := upd_same
        have ht3 : (upd (upd H3 t (.tup [.str (Str.ofString "NothingToUndo")])) D (.lst [.ref t])) t = some (.tup [.str (Str.ofString "NothingToUndo")]) := by
          rw [upd_ne tD, upd_same]
        have sm3 : Same H (upd (upd H3 t (.tup [.str (Str.ofString "NothingToUndo")])) D (.lst [.ref t])) := (Same.refl H).grown nD ((kD.trans s13).trans (same_new nt)) hD2
        refine ⟨_, rfl, by show 4 ≤ sizeLine; decide, fun tp ntp => ?_⟩
        have k4 := same_new (o := .tup [.ref T.C_BadLetters, .ref T.C_BadNumber, .ref T.C_Mismatch, .ref T.C_TooLarge]) ntp
        have htp : (upd (upd (upd H3 t (.tup [.str (Str.ofString "NothingToUndo")])) D (.lst [.ref t])) tp (.tup [.ref T.C_BadLetters, .ref T.C_BadNumber, .ref T.C_Mismatch, .ref T.C_TooLarge])) tp = some (.tup [.ref T.C_BadLetters, .ref T.C_BadNumber, .ref T.C_Mismatch, .ref T.C_TooLarge]) := upd_same
        refine ⟨_, _, _, _, false, rfl, T.E_NothingToUndo.i, rfl, htp, .cons (.own _) (.cons (.own _) (.cons (.own _) (.cons (.own _) .nil))), (fun x e => by cases e), any_no T.k_NothingToUndo_BadLetters (any_no T.k_NothingToUndo_BadNumber (any_no T.k_NothingToUndo_Mismatch (any_no T.k_NothingToUndo_TooLarge any_end))), _, rfl, iteF ?_⟩
        exact ⟨_, rfl, k _ _ _ _ _ (.nothing rfl) D t _ (.same (sm3.trans k4)) (D0.same (sm3.trans k4)) (k4 _ _ hD3) (k4 _ _ ht3)⟩
      · subst hc
        subst e1
        subst e2
        have hD2 := b1.row hD1 nPS
        have kt := same_new (o := .tup [.str (Str.ofString "told"), .str (⟨#[ch]⟩ : Str)]) ntt
        have htt : (upd H2 tt (.tup [.str (Str.ofString "told"), .str (⟨#[ch]⟩ : Str)])) tt = some (.tup [.str (Str.ofString "told"), .str (⟨#[ch]⟩ : Str)]) := upd_same
        have hD3 := kt _ _ hD2
        refine ⟨D, _, _, rfl, rfl, hD3, by show 0 < sizeLine; decide, ?_⟩
        have ttD : tt ≠ D := fun e => by rw [e, hD2] at ntt; cases ntt
        have D3 := D2.same kt
        have bb := ((ButI.same kD (s := s) (L := [P, S])).trans (ButI.butl b1)).trans (.same kt)
        generalize upd H2 tt (.tup [.str (Str.ofString "told"), .str (⟨#[ch]⟩ : Str)]) = H3 at kt htt hD3 D3 bb ⊢
        have BD : But D H3 (upd H3 D (.lst [.ref tt])) := But.put hD3
        exact ⟨_, rfl, k _ _ _ _ _ (.back rfl rfl) D tt _ (bb.young BD nD (by rw [upd_same]; exact fun z => by cases z)) ((D3.but BD (by simp) hD3).weak fun b m => List.mem_cons_of_mem _ m) upd_same (by rw [upd_ne ttD]; exact htt)⟩

def sp_copyD [Tabl] (n : Nat) : Sp := fun vs H Q _ => ∃ v : V, vs = [v] ∧ (∃ a, Deep a n H v) ∧ ∀ (u : V) (H' : Hp), Same H H' → SameD n H' u v → (∀ b, H b ≠ none → Deep b n H v → Deep b n H' u) → Q u H'
/-- what stands behind i items: their copies, apart from the new list -/
def CopyI [Tabl] (n : Nat) (H : Hp) (D : Addr) (xs : List V) (i : Nat) (H' : Hp) : Prop := Same H H' ∧ ∃ ys : List V, H' D = some (.lst ys) ∧ ys.length = i ∧ ∀ (j : Nat) (x y : V), xs[j]? = some x → ys[j]? = some y → SameD n H' y x ∧ Deep D n H' y ∧ ∀ b, H b ≠ none → Deep b n H x → Deep b n H' y
theorem CopyI.step [Tabl] {n i : Nat} {H H1 H2 : Hp} {D : Addr} {xs : List V} {x u : V} {ys : List V} {a : Addr} (nD : H D = none) (s1 : Same H H1) (hD : H1 D = some (.lst ys)) (ly : ys.length = i) (lx : xs.length ≤ 4000000) (hx : xs[i]? = some x)
    (dx : ∀ x ∈ xs, Deep a n H x) (c : ∀ (j : Nat) (x y : V), xs[j]? = some x → ys[j]? = some y → SameD n H1 y x ∧ Deep D n H1 y ∧ ∀ b, H b ≠ none → Deep b n H x → Deep b n H1 y)
    (s2 : Same H1 H2) (su : SameD n H2 u x) (du : ∀ b, H1 b ≠ none → Deep b n H1 x → Deep b n H2 u) : CopyI n H D xs (i + 1) (upd H2 D (.lst (ys ++ [u]))) := by
  have hD2 : H2 D = some (.lst ys) := s2 _ _ hD
  have kb : But D H2 (upd H2 D (.lst (ys ++ [u]))) := But.put hD2
  have mx : ∀ {j z}, xs[j]? = some z → Deep D n H z := fun e => (dx _ (List.mem_of_getElem? e)).avoid nD
  refine ⟨(Same.refl H).grown nD (s1.trans s2) hD2, _, upd_same, by rw [List.length_append, ly]; rfl, fun j z y hz hy => ?_⟩
  by_cases g : j < ys.length
  · rw [List.getElem?_append_left g] at hy
    obtain ⟨c1, c2, c3⟩ := c j z y hz hy
    have d2 := c2.same s2
    exact ⟨(SameD.keep s2 c1).put kb d2 (((mx hz).same s1).same s2), d2.put kb d2, fun b hb db => ((c3 b hb db).same s2).put kb d2⟩
  · have lj : j = i := by
      have := (List.getElem?_eq_some_iff.mp hz).1
      have := (List.getElem?_eq_some_iff.mp hy).1
      rw [List.length_append] at this
      have : j < ys.length + 1 := this
      omega
    subst lj
    rw [List.getElem?_append_right (by omega), ly, Nat.sub_self] at hy
    have ey : u = y := Option.some.inj hy
    subst ey
    rw [hx] at hz
    have ez : x = z := Option.some.inj hz
    subst ez
    have dD : Deep D n H2 u := du D (by rw [hD]; exact fun z => by cases z) ((mx hx).same s1)
    exact ⟨su.put kb dD (((mx hx).same s1).same s2), dD.put kb dD, fun b hb db => (du b (s1.some hb) (db.same s1)).put kb dD⟩
/-- no promise at all -/
theorem fnOk_noCopy {f : Addr} {fd : FuncData} {ps : List Str} {k : Nat} : FnOk P w K mg base CX0 k f fd ps (fun _ _ _ _ => False) :=
  ⟨fun vs H Q E h => h.elim, fun A outer s H args us vs Q E _ _ _ _ h => h.elim⟩
theorem copy_zero {j : Nat} (T : Txt K mg base) :
    FnOk P w K mg base CX0 (j + 1) T.f_copy T.fd_copy ["value"] (sp_copyD 0) := by
  refine T.F_copy.ok sc_copy (fun vs H Q E h => ?_) (fun cdv A outer s H vs Q E hr h => ?_)
  · obtain ⟨v, rfl, _⟩ := h
    rfl
  · obtain ⟨v, rfl, ⟨a, dv⟩, q⟩ := h
    have G : FnOk P w K mg base CX0 j T.f_copy T.fd_copy ["value"] (fun _ _ _ _ => False) := fnOk_noCopy
    refine ⟨_, (pss_cons (ps_if (pt_val (pe_callB call_isi (by rfl) T.z_isinstance (by decide +kernel) (pa_cons (pv 0) (pa_cons (pe_bltn (v := .ty "list") (by rfl) T.z_list (by decide +kernel) rfl) pa_nil)))) (pss_one (ps_ret (pe_lc (own := [("item", 1)]) (g := gName 1) rfl sc_copy.nd (pi_list (pv 0)) (blkOk_by (N := ["value", "item"]) (sc := defScope s_copy) (by decide +kernel)) (fun _ _ _ _ _ => pg_name (i := 1) sc_copy.nd rfl (Or.inl rfl)) (fun _ _ _ _ _ => pts_nil) (fun _ _ _ _ _ => (pe_call G (hr.mono (by first | decide | exact Nat.le_refl _)) (by rfl) T.g_copy T.F_copy.kp T.b_copy .nil pass0 (pa_cons (pv 1) pa_nil)))))) pss_nil)
      (pss_cons (ps_if (pt_val (pe_callB call_isi (by rfl) T.z_isinstance (by decide +kernel) (pa_cons (pv 0) (pa_cons (pe_bltn (v := .ty "tuple") (by rfl) T.z_tuple (by decide +kernel) rfl) pa_nil)))) (pss_one (ps_ret (pe_callTy call_tuple_of (by rfl) T.z_tuple (by decide +kernel) (pa_cons (pe_lc (own := [("item", 1)]) (g := gName 1) rfl sc_copy.nd (pi_tup (pv 0)) (blkOk_by (N := ["value", "item"]) (sc := defScope s_copy) (by decide +kernel)) (fun _ _ _ _ _ => pg_name (i := 1) sc_copy.nd rfl (Or.inl rfl)) (fun _ _ _ _ _ => pts_nil) (fun _ _ _ _ _ => (pe_call G (hr.mono (by first | decide | exact Nat.le_refl _)) (by rfl) T.g_copy T.F_copy.kp T.b_copy .nil pass0 (pa_cons (pv 1) pa_nil)))) pa_nil)))) pss_nil)
      (pss_one (ps_ret (pv 0))))), ?_⟩
    rcases dv with ⟨pl, tx, it⟩ | ⟨p, xs, rfl, ne, o, lx, dx⟩
    · have sv : Shal H v := (show Deep a 0 H v from .inl ⟨pl, tx, it⟩).shal
      have done : Q v H := q v H (.refl H) (show Deep a 0 H v from .inl ⟨pl, tx, it⟩).samed (fun b _ d => d)
      cases v with
      | non => exact ⟨_, rfl, _, _, _, _, false, rfl, .ty _, .base .non, kit_ty (by decide +kernel), _, rfl, iteF ⟨_, rfl, _, _, _, _, false, rfl, .ty _, .base .non, kit_ty (by decide +kernel), _, rfl, iteF ⟨_, rfl, done⟩⟩⟩
      | bl b => exact ⟨_, rfl, _, _, _, _, false, rfl, .ty _, .base (.bl b), kit_ty (by decide +kernel), _, rfl, iteF ⟨_, rfl, _, _, _, _, false, rfl, .ty _, .base (.bl b), kit_ty (by decide +kernel), _, rfl, iteF ⟨_, rfl, done⟩⟩⟩
      | int b => exact ⟨_, rfl, _, _, _, _, false, rfl, .ty _, .base (.int b), kit_ty (by decide +kernel), _, rfl, iteF ⟨_, rfl, _, _, _, _, false, rfl, .ty _, .base (.int b), kit_ty (by decide +kernel), _, rfl, iteF ⟨_, rfl, done⟩⟩⟩
      | str b => exact ⟨_, rfl, _, _, _, _, false, rfl, .ty _, .base (.str b), kit_ty (by decide +kernel), _, rfl, iteF ⟨_, rfl, _, _, _, _, false, rfl, .ty _, .base (.str b), kit_ty (by decide +kernel), _, rfl, iteF ⟨_, rfl, done⟩⟩⟩
      | byt b => cases pl
      | flt b => cases pl
      | ref b => cases pl
      | ty b => cases pl
    · rcases o with hp | hp
      · refine ⟨_, rfl, _, _, _, _, true, rfl, .ty _, .base (.lst hp), kit_ty (by decide +kernel), _, rfl, iteT ?_⟩
        have e0 : xs = [] := List.eq_nil_iff_forall_not_mem.mpr fun x m => dx x m
        subst e0
        refine ⟨_, rfl, p, rfl, ⟨_, .inl (.inl hp)⟩, fun D nD => ?_⟩
        refine lc_list (K := K) (a := p) (xs := []) (fun i H' => Same H H' ∧ H' D = some (.lst [])) ⟨same_new nD, upd_same⟩ (fun i H' _ h => .inl (.inl (h.1 _ _ hp))) ?_ ?_
        · rintro i v H1 hv _
          cases hv
        · rintro H1 ⟨s1, hD⟩
          refine q _ _ s1 (.inr ⟨D, p, [], [], rfl, rfl, .inr ⟨hD, s1 _ _ hp⟩, rfl, lx, fun i y x ey ex => by cases ex⟩) (fun b hb db => ?_)
          exact .inr ⟨D, [], rfl, fun e => hb (by rw [← e]; exact nD), .inl hD, lx, fun y m => absurd m List.not_mem_nil⟩
      · refine ⟨_, rfl, _, _, _, _, false, rfl, .ty _, .base (.tup hp), kit_ty (by decide +kernel), _, rfl, iteF ?_⟩
        refine ⟨_, rfl, _, _, _, _, true, rfl, .ty _, .base (.tup hp), kit_ty (by decide +kernel), _, rfl, iteT ?_⟩
        have e0 : xs = [] := List.eq_nil_iff_forall_not_mem.mpr fun x m => dx x m
        subst e0
        refine ⟨_, rfl, p, rfl, ⟨_, .inl (.inl hp)⟩, fun D nD => ?_⟩
        refine lc_tup (K := K) (a := p) (xs := []) (fun i H' => Same H H' ∧ H' D = some (.lst [])) ⟨same_new nD, upd_same⟩ (fun i H' _ h => .inl (.inl (h.1 _ _ hp))) ?_ ?_
        · rintro i v H1 hv _
          cases hv
        · rintro H1 ⟨s1, hD⟩
          refine ⟨D, _, rfl, .inl ⟨.inl (.inl hD), fun t nt => ?_⟩⟩
          have s3 := s1.trans (same_new (o := .tup []) nt)
          refine q _ _ s3 (.inr ⟨t, p, [], [], rfl, rfl, .inl ⟨upd_same, s3 _ _ hp⟩, rfl, lx, fun i y x ey ex => by cases ex⟩) (fun b hb db => ?_)
          exact .inr ⟨t, [], rfl, fun e => hb (by rw [← e]; exact s1.free nt), .inr upd_same, lx, fun y m => absurd m List.not_mem_nil⟩
theorem copy_step {j n : Nat} (T : Txt K mg base) (G : FnOk P w K mg base CX0 j T.f_copy T.fd_copy ["value"] (sp_copyD n)) :
    FnOk P w K mg base CX0 (j + 1) T.f_copy T.fd_copy ["value"] (sp_copyD (n + 1)) := by
  refine T.F_copy.ok sc_copy (fun vs H Q E h => ?_) (fun cdv A outer s H vs Q E hr h => ?_)
  · obtain ⟨v, rfl, _⟩ := h
    rfl
  · obtain ⟨v, rfl, ⟨a, dv⟩, q⟩ := h
    refine ⟨_, (pss_cons (ps_if (pt_val (pe_callB call_isi (by rfl) T.z_isinstance (by decide +kernel) (pa_cons (pv 0) (pa_cons (pe_bltn (v := .ty "list") (by rfl) T.z_list (by decide +kernel) rfl) pa_nil)))) (pss_one (ps_ret (pe_lc (own := [("item", 1)]) (g := gName 1) rfl sc_copy.nd (pi_list (pv 0)) (blkOk_by (N := ["value", "item"]) (sc := defScope s_copy) (by decide +kernel)) (fun _ _ _ _ _ => pg_name (i := 1) sc_copy.nd rfl (Or.inl rfl)) (fun _ _ _ _ _ => pts_nil) (fun _ _ _ _ _ => (pe_call G (hr.mono (by first | decide | exact Nat.le_refl _)) (by rfl) T.g_copy T.F_copy.kp T.b_copy .nil pass0 (pa_cons (pv 1) pa_nil)))))) pss_nil)
      (pss_cons (ps_if (pt_val (pe_callB call_isi (by rfl) T.z_isinstance (by decide +kernel) (pa_cons (pv 0) (pa_cons (pe_bltn (v := .ty "tuple") (by rfl) T.z_tuple (by decide +kernel) rfl) pa_nil)))) (pss_one (ps_ret (pe_callTy call_tuple_of (by rfl) T.z_tuple (by decide +kernel) (pa_cons (pe_lc (own := [("item", 1)]) (g := gName 1) rfl sc_copy.nd (pi_tup (pv 0)) (blkOk_by (N := ["value", "item"]) (sc := defScope s_copy) (by decide +kernel)) (fun _ _ _ _ _ => pg_name (i := 1) sc_copy.nd rfl (Or.inl rfl)) (fun _ _ _ _ _ => pts_nil) (fun _ _ _ _ _ => (pe_call G (hr.mono (by first | decide | exact Nat.le_refl _)) (by rfl) T.g_copy T.F_copy.kp T.b_copy .nil pass0 (pa_cons (pv 1) pa_nil)))) pa_nil)))) pss_nil)
      (pss_one (ps_ret (pv 0))))), ?_⟩
    rcases dv with ⟨pl, tx, it⟩ | ⟨p, xs, rfl, ne, o, lx, dx⟩
    · have sv : Shal H v := (show Deep a (n + 1) H v from .inl ⟨pl, tx, it⟩).shal
      have done : Q v H := q v H (.refl H) (show Deep a (n + 1) H v from .inl ⟨pl, tx, it⟩).samed (fun b _ d => d)
      cases v with
      | non => exact ⟨_, rfl, _, _, _, _, false, rfl, .ty _, .base .non, kit_ty (by decide +kernel), _, rfl, iteF ⟨_, rfl, _, _, _, _, false, rfl, .ty _, .base .non, kit_ty (by decide +kernel), _, rfl, iteF ⟨_, rfl, done⟩⟩⟩
      | bl b => exact ⟨_, rfl, _, _, _, _, false, rfl, .ty _, .base (.bl b), kit_ty (by decide +kernel), _, rfl, iteF ⟨_, rfl, _, _, _, _, false, rfl, .ty _, .base (.bl b), kit_ty (by decide +kernel), _, rfl, iteF ⟨_, rfl, done⟩⟩⟩
      | int b => exact ⟨_, rfl, _, _, _, _, false, rfl, .ty _, .base (.int b), kit_ty (by decide +kernel), _, rfl, iteF ⟨_, rfl, _, _, _, _, false, rfl, .ty _, .base (.int b), kit_ty (by decide +kernel), _, rfl, iteF ⟨_, rfl, done⟩⟩⟩
      | str b => exact ⟨_, rfl, _, _, _, _, false, rfl, .ty _, .base (.str b), kit_ty (by decide +kernel), _, rfl, iteF ⟨_, rfl, _, _, _, _, false, rfl, .ty _, .base (.str b), kit_ty (by decide +kernel), _, rfl, iteF ⟨_, rfl, done⟩⟩⟩
      | byt b => cases pl
      | flt b => cases pl
      | ref b => cases pl
      | ty b => cases pl
    · rcases o with hp | hp
      · refine ⟨_, rfl, _, _, _, _, true, rfl, .ty _, .base (.lst hp), kit_ty (by decide +kernel), _, rfl, iteT ?_⟩
        refine ⟨_, rfl, p, rfl, ⟨_, .inl (.inl hp)⟩, fun D nD => ?_⟩
        have nDp : D ≠ p := fun e => by
          rw [e, hp] at nD
          cases nD
        refine lc_list (K := K) (a := p) (xs := xs) (fun i H' => CopyI n H D xs i H') ⟨same_new nD, [], upd_same, rfl, fun j x y _ hy => by cases hy⟩ (fun i H' _ h => .inl (.inl (h.1 _ _ hp))) ?_ ?_
        · rintro i v H1 hv ⟨s1, ys, hD, ly, c⟩
          have dv : Deep a n H1 v := (dx v (List.mem_of_getElem? hv)).same s1
          refine ⟨rfl, _, rfl, v, rfl, ⟨a, dv⟩, fun u H2 s2 su du => ?_⟩
          have li : i < xs.length := (List.getElem?_eq_some_iff.mp hv).1
          exact ⟨_, s2 _ _ hD, by rw [ly]; exact Nat.lt_of_lt_of_le (by omega : i < 4000000) (by decide), CopyI.step nD s1 hD ly lx hv dx c s2 su du⟩
        · rintro H1 ⟨s1, ys, hD, ly, c⟩
          refine q _ _ s1 (.inr ⟨D, p, ys, xs, rfl, rfl, .inr ⟨hD, s1 _ _ hp⟩, ly, lx, fun i y x ey ex => (c i x y ex ey).1⟩) (fun b hb db => ?_)
          have dI := (deep_ref db (.inl hp)).2 n rfl
          refine deep_lst (fun e => hb (by rw [← e]; exact nD)) hD (by omega) (fun y my => ?_)
          obtain ⟨i, li, ei⟩ := List.mem_iff_getElem.mp my
          have hy : ys[i]? = some y := by rw [List.getElem?_eq_getElem li, ei]
          have hx : xs[i]? = some xs[i] := List.getElem?_eq_getElem (by omega)
          exact (c i _ y hx hy).2.2 b hb (dI _ (List.getElem_mem _))
      · refine ⟨_, rfl, _, _, _, _, false, rfl, .ty _, .base (.tup hp), kit_ty (by decide +kernel), _, rfl, iteF ?_⟩
        refine ⟨_, rfl, _, _, _, _, true, rfl, .ty _, .base (.tup hp), kit_ty (by decide +kernel), _, rfl, iteT ?_⟩
        refine ⟨_, rfl, p, rfl, ⟨_, .inl (.inl hp)⟩, fun D nD => ?_⟩
        have nDp : D ≠ p := fun e => by
          rw [e, hp] at nD
          cases nD
        refine lc_tup (K := K) (a := p) (xs := xs) (fun i H' => CopyI n H D xs i H') ⟨same_new nD, [], upd_same, rfl, fun j x y _ hy => by cases hy⟩ (fun i H' _ h => .inl (.inl (h.1 _ _ hp))) ?_ ?_
        · rintro i v H1 hv ⟨s1, ys, hD, ly, c⟩
          have dv : Deep a n H1 v := (dx v (List.mem_of_getElem? hv)).same s1
          refine ⟨rfl, _, rfl, v, rfl, ⟨a, dv⟩, fun u H2 s2 su du => ?_⟩
          have li : i < xs.length := (List.getElem?_eq_some_iff.mp hv).1
          exact ⟨_, s2 _ _ hD, by rw [ly]; exact Nat.lt_of_lt_of_le (by omega : i < 4000000) (by decide), CopyI.step nD s1 hD ly lx hv dx c s2 su du⟩
        · rintro H1 ⟨s1, ys, hD, ly, c⟩
          refine ⟨D, _, rfl, .inl ⟨.inl (.inl hD), fun t nt => ?_⟩⟩
          have s3 := s1.trans (same_new (o := .tup ys) nt)
          refine q _ _ s3 (.inr ⟨t, p, ys, xs, rfl, rfl, .inl ⟨upd_same, s3 _ _ hp⟩, ly, lx, fun i y x ey ex => SameD.keep (same_new nt) (c i x y ex ey).1⟩) (fun b hb db => ?_)
          have dI := (deep_ref db (.inr hp)).2 n rfl
          refine deep_tup (fun e => hb (by rw [← e]; exact s1.free nt)) upd_same (by omega) (fun y my => ?_)
          obtain ⟨i, li, ei⟩ := List.mem_iff_getElem.mp my
          have hy : ys[i]? = some y := by rw [List.getElem?_eq_getElem li, ei]
          have hx : xs[i]? = some xs[i] := List.getElem?_eq_getElem (by omega)
          exact ((c i _ y hx hy).2.2 b hb (dI _ (List.getElem_mem _))).same (same_new nt)
theorem ok_copyN (T : Txt K mg base) : ∀ n : Nat, FnOk P w K mg base CX0 (n + 1) T.f_copy T.fd_copy ["value"] (sp_copyD n)
  | 0 => copy_zero T
  | n + 1 => copy_step T (ok_copyN T n)
theorem ok_copy (T : Txt K mg base) : FnOk P w K mg base CX0 10 T.f_copy T.fd_copy ["value"] (sp_copyD 9) := ok_copyN T 9

def sp_due [Tabl] (K : PySem.W.Frag) : Sp := fun vs H Q _ => ∃ (p pa : Addr) (r z f : Str) (mv : Grid) (fin : List (Option Str)) (M0 F0 : Addr) (zs : List V) (ts : List (Nat × Str × Nat)) (ps : List (Nat × Str)) (qs : List Nat) (q : Nat) (c : Bool) (L : List Addr), vs = [.ref p, .ref pa, .bl c] ∧ RP L H p r z f mv fin M0 F0 ∧ GoodR r z f mv fin ∧ H pa = some (.lst zs) ∧ EntL p3V H zs ts ∧ Pth (cs r) mv ts ps qs q ∧ (c = true → ∃ x, fin[q]? = some (some x)) ∧ ps.length ≤ 8900 ∧
  ∀ (t l : Addr) (xs : List V) (H' : Hp), Same H H' → H' l = some (.lst xs) → EntL pcV H' xs ps → H' t = some (.tup [.int (q : Int), .str (takS ps), .str (f ++ wrtS ps ++ (if c then (fin[q]?.join).getD (Str.ofString "") else Str.ofString "")), if c then .int 0 else (match fin[q]?.join with | none => V.non | some x => .int (x.length : Int)), .bl c, .int (ps.length : Int), .ref l]) → Q (.ref t) H'
theorem ok_due (T : Txt K mg base) : FnOk P w K mg base CX0 (0 + 1) T.f_due T.fd_due ["parts", "path", "shut"] (sp_due K) := by
  refine T.F_due.ok sc_due (fun vs H Q E h => ?_) (fun cdv A outer st H vs Q E hr h => ?_)
  · obtain ⟨p, pa, r, z, f, mv, fin, M0, F0, zs, ts, ps, qs, q, c, L, rfl, _⟩ := h
    rfl
  · obtain ⟨p, pa, r, z, f, mv, fin, M0, F0, zs, ts, ps, qs, q, c, L, rfl, D, g, hpa, en, pt, cl, lp, k⟩ := h
    refine ⟨_, (pss_cons (ps_set (i := 3) sc_due.nd rfl (.inl rfl) pe_int)
      (pss_cons (ps_set (i := 4) sc_due.nd rfl (.inl rfl) pe_str)
      (pss_cons (ps_set (i := 5) sc_due.nd rfl (.inl rfl) (pe_ix ix_tup (pv 0) pe_int (fun _ _ => rfl)))
      (pss_cons (ps_set (i := 6) sc_due.nd rfl (.inl rfl) (pe_lst pa_nil))
      (pss_cons (ps_for PassesOwn.never rfl (pi_list (pv 1)) (pg_name (i := 7) sc_due.nd rfl (.inl rfl)) (pss_cons (ps_set (i := 4) sc_due.nd rfl (.inl rfl) (pe_op op_add_str (pv 4) (pe_ix ix_tup (pv 7) pe_int (fun _ _ => rfl))))
      (pss_cons (ps_set (i := 5) sc_due.nd rfl (.inl rfl) (pe_op op_add_str (pv 5) (pe_ix ix_tup (pv 7) pe_int (fun _ _ => rfl))))
      (pss_cons (ps_set (i := 3) sc_due.nd rfl (.inl rfl) (pe_ix ix_tup (pv 7) pe_int (fun _ _ => rfl)))
      (pss_one (ps_expr (pe_bm PySem.F.plainAttrs_list PySem.F.slot_list_append PySem.F.type_list_append mt_append (pv 6) (pa_cons (pe_tup (pa_cons (pe_ix ix_tup (pv 7) pe_int (fun _ _ => rfl)) (pa_cons (pe_ix ix_tup (pv 7) pe_int (fun _ _ => rfl)) pa_nil))) pa_nil))))))))
      (pss_cons (ps_set (i := 8) sc_due.nd rfl (.inl rfl) (pe_ix ix_list (pe_ix ix_tup (pv 0) pe_int (fun _ _ => rfl)) (pv 3) (fun _ _ => rfl)))
      (pss_cons (ps_set (i := 9) sc_due.nd rfl (.inl rfl) pe_non)
      (C8.pss_cut (ps_if (pt_val (pv 2)) (pss_cons (ps_set (i := 5) sc_due.nd rfl (.inl rfl) (pe_op op_add_str (pv 5) (pv 8)))
      (pss_one (ps_set (i := 9) sc_due.nd rfl (.inl rfl) pe_int))) (pss_one (ps_if (pt_cmpR op_notN (pv 8) pe_non (nomark _)) (pss_one (ps_set (i := 9) sc_due.nd rfl (.inl rfl) (pe_callB call_len_str (by rfl) T.z_len PySem.boot_len (pa_cons (pv 8) pa_nil)))) pss_nil)))
      (pss_one (ps_ret (pe_tup (pa_cons (pv 3) (pa_cons (pv 4) (pa_cons (pv 5) (pa_cons (pv 9) (pa_cons (pv 2) (pa_cons (pe_callB call_len_seq (by rfl) T.z_len PySem.boot_len (pa_cons (pv 1) pa_nil)) (pa_cons (pv 6) pa_nil)))))))))))))))))), ?_⟩
    have lf := g.lf
    have lfin := g.lfin
    have tk := pt.trk
    obtain ⟨lq, ow, lw⟩ := tk.lt g
    have lts := pt.len
    have ets := pt.map
    have lzs := en.len
    have fe : fin[q]? = some (fin[q]'(by omega)) := List.getElem?_eq_getElem (by omega)
    have fv : (fin.map finV)[q]? = some (finV (fin[q]'(by omega))) := by rw [List.getElem?_map, fe]; rfl
    have fm : fin[q]'(by omega) ∈ fin := List.getElem_mem _
    generalize fin[q]'(by omega) = o at fe fv fm
    have lwt : ∀ i, (wrtS (ps.take i)).length ≤ 400 * ps.length := fun i => by
      have h : (wrtS (ps.take i)).length ≤ (wrtS ps).length := by
        have e : wrtS ps = wrtS (ps.take i) ++ wrtS (ps.drop i) := cs_ext (by
          rw [cs_app]
          unfold wrtS
          rw [cs_join0, cs_join0, cs_join0, ← List.flatten_append, ← List.map_append, ← List.map_append, List.take_append_drop])
        rw [e, length_app]
        omega
      omega
    refine ⟨_, rfl, _, _, _, _, rfl, rfl, .inl (.inl D.hp), rfl, by show 0 ≤ sizeLine; decide, fun R nR => ?_⟩
    have kR := same_new (o := .lst []) nR
    have hR0 : (upd H R (.lst [])) R = some (.lst []) := upd_same
    refine ⟨_, rfl, pa, rfl, ⟨_, .inl (.inl (kR _ _ hpa))⟩, ?_⟩
    refine for_list (K := K) (a := pa) (xs := zs) (fun i σ G => (∃ (y7 : Option V) (si : Nat), σ = [some (.ref p), some (.ref pa), some (.bl c), some (.int (si : Int)), some (.str (takS (ps.take i))), some (.str (f ++ wrtS (ps.take i))), some (.ref R), y7, none, none] ∧ (i = 0 → si = 0) ∧ ∀ e j, i = j + 1 → ts[j]? = some e → si = e.2.2) ∧ Same H G ∧ ∃ ys, G R = some (.lst ys) ∧ EntL pcV G ys (ps.take i))
      ⟨⟨_, 0, by rw [show f ++ wrtS (ps.take 0) = f from cs_ext (by rw [cs_app]; show cs f ++ cs (Str.ofString "") = _; rw [cs_empty, List.append_nil])]; rfl, fun _ => rfl, fun e j h => by omega⟩, kR, [], hR0, .nil⟩ (fun i σ G _ h => .inl (.inl (h.2.1 _ _ hpa))) ?_ ?_
    · rintro i v σ G hv ⟨⟨y7, si, rfl, _, _⟩, s0, ys, hR, enG⟩
      obtain ⟨e, t, he, rfl, ht⟩ := (en.same s0).get hv
      obtain ⟨c0, we, se⟩ := e
      have li := (List.getElem?_eq_some_iff.mp he).1
      have hep : ps[i]? = some (c0, we) := by rw [ets, List.getElem?_map, he]; rfl
      have tk1 : ps.take (i + 1) = ps.take i ++ [(c0, we)] := by rw [List.take_add_one, hep]; rfl
      have lwi := lwt i
      have lw2 : we.length ≤ 400 := (tk.mem g _ (List.mem_of_getElem? hep)).2.2
      have ltk := takS_len (ps.take i)
      rw [List.length_take] at ltk
      have ew : f ++ wrtS (ps.take i) ++ we = f ++ wrtS (ps.take (i + 1)) := by
        rw [tk1, wrtS_snoc]
        exact cs_ext (by rw [cs_app, cs_app, cs_app, cs_app, List.append_assoc])
      have et : takS (ps.take i) ++ (⟨#[c0]⟩ : Str) = takS (ps.take (i + 1)) := by
        rw [tk1]
        unfold takS
        rw [List.map_append]
        exact (join0_snoc _ _).symm
      have ht' : G t = some (.tup [.str (⟨#[c0]⟩ : Str), .str we, .int (se : Int)]) := ht
      refine ⟨_, rfl, _, rfl, _, _, _, _, rfl, rfl, .inl (.inl ht'), rfl, _, _, rfl, rfl, Nat.le_trans (show (takS (ps.take i)).length + 1 ≤ 4000000 by omega) (by decide), ?_⟩
      refine ⟨_, rfl, _, rfl, _, _, _, _, rfl, rfl, .inl (.inl ht'), rfl, _, _, rfl, rfl, Nat.le_trans (show (f ++ wrtS (ps.take i)).length + we.length ≤ 4000000 by rw [length_app]; omega) (by decide), ?_⟩
      refine ⟨_, rfl, _, _, _, _, rfl, rfl, .inl (.inl ht'), rfl, ?_⟩
      refine ⟨_, rfl, .inl ⟨rfl, _, .inl (.inl hR)⟩, _, rfl, _, _, _, _, rfl, rfl, .inl (.inl ht'), rfl, _, rfl, _, _, _, _, rfl, rfl, .inl (.inl ht'), rfl, by show 2 ≤ sizeLine; decide, fun tt ntt => ?_⟩
      have k1 := same_new (o := .tup [.str (⟨#[c0]⟩ : Str), .str we]) ntt
      have htt : (upd G tt (.tup [.str (⟨#[c0]⟩ : Str), .str we])) tt = some (.tup (pcV (c0, we))) := upd_same
      generalize upd G tt (.tup [.str (⟨#[c0]⟩ : Str), .str we]) = G1 at k1 htt ⊢
      have hR1 := k1 _ _ hR
      have s1 := s0.trans k1
      have ly := enG.len
      rw [List.length_take] at ly
      refine ⟨R, _, _, rfl, rfl, hR1, Nat.lt_of_le_of_lt (by omega : _ ≤ 9000) (by decide), ?_⟩
      have s2 : Same H (upd G1 R (.lst (ys ++ [.ref tt]))) := (Same.refl H).grown nR s1 hR1
      have ttR : tt ≠ R := fun z => by rw [z, hR1] at htt; cases htt
      refine ⟨⟨some (.ref t), se, ?_, fun h => absurd h (by omega), fun e j hj h => ?_⟩, s2, _, upd_same, ?_⟩
      · rw [← ew, ← et]
        rfl
      · obtain rfl : j = i := by omega
        rw [he] at h
        cases h
        rfl
      · rw [tk1]
        refine paired_snoc (Paired.mapP (enG.same k1) fun _ _ ⟨t', e', q'⟩ => ⟨t', e', ?_⟩) ⟨tt, rfl, by rw [upd_ne ttR]; exact htt⟩
        rw [upd_ne fun z => by rw [z, hR1] at q'; cases q']
        exact q'
    · rintro σ G ⟨⟨y7, si, rfl, h0, h1⟩, s0, ys, hR, enG⟩
      have eps : ps.take zs.length = ps := List.take_of_length_le (by omega)
      rw [eps] at enG ⊢
      obtain rfl : si = q := by
        rcases pt.last with ⟨e, eq⟩ | ⟨ts', c', x, e⟩
        · rw [e] at lzs
          rw [h0 lzs, eq]
        · have l2 : zs.length = ts'.length + 1 := by rw [lzs, e, List.length_append]; rfl
          exact h1 _ ts'.length l2 (by rw [e, List.getElem?_append_right (Nat.le_refl _), Nat.sub_self]; rfl)
      have DG := D.same s0
      refine ⟨_, rfl, _, _, _, _, rfl, rfl, .inl (.inl DG.hp), rfl, _, rfl, F0, _, _, _, rfl, rfl, .inl (.inl DG.hf), atI_nat fv, ?_⟩
      obtain ⟨wv, ewv⟩ : ∃ wv : Str, wv = f ++ wrtS ps ++ (if c then (fin[si]?.join).getD (Str.ofString "") else Str.ofString "") := ⟨_, rfl⟩
      obtain ⟨hv, ehv⟩ : ∃ hv : V, hv = if c then .int 0 else (match fin[si]?.join with | none => V.non | some x => .int (x.length : Int)) := ⟨_, rfl⟩
      refine ⟨fun σ' G' => ∃ y8, σ' = [some (.ref p), some (.ref pa), some (.bl c), some (.int (si : Int)), some (.str (takS ps)), some (.str wv), some (.ref R), y7, y8, some hv] ∧ G' = G, ?_, ?_⟩
      · refine ⟨_, rfl, _, rfl, ?_⟩
        cases c with
        | true =>
          obtain ⟨x, hx⟩ := cl rfl
          rw [fe] at hx
          cases hx
          have lx := (g.fin x fm).2
          rw [fe] at ewv
          refine iteC rfl ⟨_, rfl, _, rfl, _, _, rfl, rfl, Nat.le_trans (by rw [length_app]; omega : (f ++ wrtS ps).length + x.length ≤ 4000000) (by decide), some (.str x), ?_, rfl⟩
          rw [ewv, ehv]
          rfl
        | false =>
          have ew' : wv = f ++ wrtS ps := by
            rw [ewv]
            exact cs_ext (by rw [cs_app]; show cs (f ++ wrtS ps) ++ cs (Str.ofString "") = _; rw [cs_empty, List.append_nil])
          rw [ew', ehv, fe]
          refine iteN rfl ⟨_, rfl, rfl, _, rfl, ?_⟩
          cases o with
          | none => exact iteN rfl ⟨_, rfl, rfl⟩
          | some x => exact iteC rfl ⟨_, rfl, x, rfl, small_text (by have := (g.fin x fm).2; omega), _, rfl, rfl⟩
      · rintro σ' G' ⟨y8, rfl, rfl⟩
        refine ⟨_, rfl, _, rfl, _, rfl, _, rfl, _, rfl, _, rfl, pa, _, rfl, .inl (.inl (.inl (s0 _ _ hpa))), _, rfl, by show 7 ≤ sizeLine; decide, fun t nt => ?_⟩
        rw [show (zs.length : Int) = (ps.length : Int) by omega]
        have k9 := same_new (o := .tup [.int (si : Int), .str (takS ps), .str wv, hv, .bl c, .int (ps.length : Int), .ref R]) nt
        exact k t R ys _ (s0.trans k9) (k9 _ _ hR) (enG.same k9) (by rw [upd_same, ewv, ehv])

def sp_sameR (rel : Hp → V → V → Prop) : Sp := fun vs H Q _ => ∃ x y : V, vs = [x, y] ∧ rel H x y ∧ Q (.bl true) H
theorem same_bit {x : V} {Q : VK} {H : Hp} (q : Q (.bl true) H) : Q (.bl (decide (x = x))) H := by
  rw [decide_eq_true rfl]
  exact q
theorem same_step {rel : Hp → V → V → Prop} {j : Nat} (T : Txt K mg base) (G : FnOk P w K mg base CX0 j T.f_same T.fd_same ["actual", "expected"] (sp_sameR rel)) :
    FnOk P w K mg base CX0 (j + 1) T.f_same T.fd_same ["actual", "expected"] (sp_sameR (SameR rel)) := by
  refine T.F_same.ok sc_same (fun vs H Q E h => ?_) (fun cdv A outer s H vs Q E hr h => ?_)
  · obtain ⟨x, y, rfl, _⟩ := h
    rfl
  · obtain ⟨x, y, rfl, h, q⟩ := h
    refine ⟨_, (pss_cons (ps_if (pt_cmpR op_isN (pv 1) pe_non (nomark _)) (pss_one (ps_ret (pe_cmpR op_isN (pv 0) pe_non (nomark _)))) pss_nil)
      (pss_cons (ps_if (pt_val (pe_callB call_isi (by rfl) T.z_isinstance (by decide +kernel) (pa_cons (pv 1) (pa_cons (pe_bltn (v := .ty "bool") (by rfl) T.z_bool (by decide +kernel) rfl) pa_nil)))) (pss_one (ps_ret (pe_and (pe_callB call_isi (by rfl) T.z_isinstance (by decide +kernel) (pa_cons (pv 0) (pa_cons (pe_bltn (v := .ty "bool") (by rfl) T.z_bool (by decide +kernel) rfl) pa_nil))) (pe_one (pe_cmpR op_eq (pv 0) (pv 1) (nomark _)))))) pss_nil)
      (pss_cons (ps_if (pt_val (pe_callB call_isi (by rfl) T.z_isinstance (by decide +kernel) (pa_cons (pv 1) (pa_cons (pe_bltn (v := .ty "int") (by rfl) T.z_int (by decide +kernel) rfl) pa_nil)))) (pss_one (ps_ret (pe_and (pe_callB call_isi (by rfl) T.z_isinstance (by decide +kernel) (pa_cons (pv 0) (pa_cons (pe_bltn (v := .ty "int") (by rfl) T.z_int (by decide +kernel) rfl) pa_nil))) (pe_and (pe_not (pe_callB call_isi (by rfl) T.z_isinstance (by decide +kernel) (pa_cons (pv 0) (pa_cons (pe_bltn (v := .ty "bool") (by rfl) T.z_bool (by decide +kernel) rfl) pa_nil)))) (pe_one (pe_cmpR op_eq (pv 0) (pv 1) (nomark _))))))) pss_nil)
      (pss_cons (ps_if (pt_val (pe_callB call_isi (by rfl) T.z_isinstance (by decide +kernel) (pa_cons (pv 1) (pa_cons (pe_bltn (v := .ty "str") (by rfl) T.z_str (by decide +kernel) rfl) pa_nil)))) (pss_one (ps_ret (pe_and (pe_callB call_isi (by rfl) T.z_isinstance (by decide +kernel) (pa_cons (pv 0) (pa_cons (pe_bltn (v := .ty "str") (by rfl) T.z_str (by decide +kernel) rfl) pa_nil))) (pe_one (pe_cmpR op_eq (pv 0) (pv 1) (nomark _)))))) pss_nil)
      (pss_cons (ps_if (pt_val (pe_callB call_isi (by rfl) T.z_isinstance (by decide +kernel) (pa_cons (pv 1) (pa_cons (pe_bltn (v := .ty "tuple") (by rfl) T.z_tuple (by decide +kernel) rfl) pa_nil)))) (pss_one (ps_if (pt_not (pt_val (pe_callB call_isi (by rfl) T.z_isinstance (by decide +kernel) (pa_cons (pv 0) (pa_cons (pe_bltn (v := .ty "tuple") (by rfl) T.z_tuple (by decide +kernel) rfl) pa_nil))))) (pss_one (ps_ret pe_bl)) pss_nil)) (pss_one (ps_if (PW.pt (pw_or (pt_not (pt_val (pe_callB call_isi (by rfl) T.z_isinstance (by decide +kernel) (pa_cons (pv 0) (pa_cons (pe_bltn (v := .ty "list") (by rfl) T.z_list (by decide +kernel) rfl) pa_nil))))) (pw_or1 (pt_not (pt_val (pe_callB call_isi (by rfl) T.z_isinstance (by decide +kernel) (pa_cons (pv 1) (pa_cons (pe_bltn (v := .ty "list") (by rfl) T.z_list (by decide +kernel) rfl) pa_nil)))))))) (pss_one (ps_ret pe_bl)) pss_nil)))
      (pss_cons (ps_if (pt_cmpR op_ne (pe_callB call_len (by rfl) T.z_len PySem.boot_len (pa_cons (pv 0) pa_nil)) (pe_callB call_len (by rfl) T.z_len PySem.boot_len (pa_cons (pv 1) pa_nil)) (nomark _)) (pss_one (ps_ret pe_bl)) pss_nil)
      (pss_cons (ps_for PassesOwn.never rfl (pi_range1 (by rfl) T.z_range (pa_cons (pe_callB call_len (by rfl) T.z_len PySem.boot_len (pa_cons (pv 1) pa_nil)) pa_nil)) (pg_name (i := 2) sc_same.nd rfl (.inl rfl)) (pss_one (ps_if (pt_not (pt_val (pe_call G (hr.mono (by first | decide | exact Nat.le_refl _)) (by rfl) T.g_same T.F_same.kp T.b_same .nil pass0 (pa_cons (pe_ix ix_seq (pv 0) (pv 2) (fun _ _ => rfl)) (pa_cons (pe_ix ix_seq (pv 1) (pv 2) (fun _ _ => rfl)) pa_nil))))) (pss_one (ps_ret pe_bl)) pss_nil)))
      (pss_one (ps_ret pe_bl))))))))), ?_⟩
    rcases h with ⟨rfl, hy⟩ | ⟨p, r, xs, ys, rfl, rfl, ho, hl, hb, hi⟩
    · cases x with
      | non => exact ⟨_, rfl, rfl, _, rfl, iteC rfl ⟨_, rfl, rfl, q⟩⟩
      | bl b => exact ⟨_, rfl, rfl, _, rfl, iteN rfl ⟨_, rfl, _, _, _, _, true, rfl, .ty _, .base (.bl b), kit_ty (by decide +kernel), _, rfl, iteT ⟨_, rfl, _, _, _, _, true, rfl, .ty _, .base (.bl b), kit_ty (by decide +kernel), _, rfl, iteT ⟨_, rfl, _, rfl, rfl, same_bit q⟩⟩⟩⟩
      | int b =>
        refine ⟨_, rfl, rfl, _, rfl, iteN rfl ⟨_, rfl, _, _, _, _, false, rfl, .ty _, .base (.int b), kit_ty (by decide +kernel), _, rfl, iteF ?_⟩⟩
        refine ⟨_, rfl, _, _, _, _, true, rfl, .ty _, .base (.int b), kit_ty (by decide +kernel), _, rfl, iteT ?_⟩
        exact ⟨_, rfl, _, _, _, _, true, rfl, .ty _, .base (.int b), kit_ty (by decide +kernel), _, rfl, iteT ⟨_, rfl, _, _, _, _, false, rfl, .ty _, .base (.int b), kit_ty (by decide +kernel), _, rfl, _, rfl, iteT ⟨_, rfl, _, rfl, rfl, same_bit q⟩⟩⟩
      | str b =>
        refine ⟨_, rfl, rfl, _, rfl, iteN rfl ⟨_, rfl, _, _, _, _, false, rfl, .ty _, .base (.str b), kit_ty (by decide +kernel), _, rfl, iteF ?_⟩⟩
        refine ⟨_, rfl, _, _, _, _, false, rfl, .ty _, .base (.str b), kit_ty (by decide +kernel), _, rfl, iteF ?_⟩
        refine ⟨_, rfl, _, _, _, _, true, rfl, .ty _, .base (.str b), kit_ty (by decide +kernel), _, rfl, iteT ?_⟩
        exact ⟨_, rfl, _, _, _, _, true, rfl, .ty _, .base (.str b), kit_ty (by decide +kernel), _, rfl, iteT ⟨_, rfl, _, rfl, rfl, same_bit q⟩⟩
      | byt b => cases hy
      | flt b => cases hy
      | ref b => cases hy
      | ty b => cases hy
    · refine ⟨_, rfl, rfl, _, rfl, iteN rfl ?_⟩
      rcases ho with ⟨o1, o2⟩ | ⟨o1, o2⟩
      · refine ⟨_, rfl, _, _, _, _, false, rfl, .ty _, .base (.tup o2), kit_ty (by decide +kernel), _, rfl, iteF ?_⟩
        refine ⟨_, rfl, _, _, _, _, false, rfl, .ty _, .base (.tup o2), kit_ty (by decide +kernel), _, rfl, iteF ?_⟩
        refine ⟨_, rfl, _, _, _, _, false, rfl, .ty _, .base (.tup o2), kit_ty (by decide +kernel), _, rfl, iteF ?_⟩
        refine ⟨_, rfl, _, _, _, _, true, rfl, .ty _, .base (.tup o2), kit_ty (by decide +kernel), _, rfl, iteT ?_⟩
        refine ⟨_, rfl, _, _, _, _, true, rfl, .ty _, .base (.tup o1), kit_ty (by decide +kernel), _, rfl, iteF ?_⟩
        refine ⟨_, rfl, _, _, rfl, .inr ⟨_, .inl (.inl o1), rfl⟩, _, rfl, _, _, rfl, .inr ⟨_, .inl (.inl o2), rfl⟩, rfl, _, rfl, iteN (by rw [hl]; simp) ?_⟩
        refine ⟨_, rfl, _, _, rfl, .inr ⟨_, .inl (.inl o2), rfl⟩, (ys.length : Int), rfl, by omega, by omega, ?_⟩
        refine for_range (lo := 0) (n := (ys.length : Int).toNat) (fun i σ H' => ∃ z : Option V, σ = [some (.ref p), some (.ref r), z] ∧ H' = H) ⟨none, rfl, rfl⟩ ?_ ?_
        · rintro i σ H' hn ⟨z, rfl, rfl⟩
          have hn' : i < ys.length := hn
          have hx : xs[i]? = some xs[i] := List.getElem?_eq_getElem (by omega)
          have hy : ys[i]? = some ys[i] := List.getElem?_eq_getElem hn'
          refine ⟨_, rfl, _, rfl, .inr (.inl ⟨_, _, _, _, rfl, rfl, .inl (.inl o1), (by rw [Int.zero_add]; exact atI_nat hx), _, rfl, _, rfl, .inr (.inl ⟨_, _, _, _, rfl, rfl, .inl (.inl o2), (by rw [Int.zero_add]; exact atI_nat hy), _, _, rfl, hi i _ _ hx hy, _, rfl, iteN rfl ⟨_, rfl, rfl⟩⟩)⟩)⟩
        · rintro σ H' ⟨z, rfl, rfl⟩
          exact q
      · refine ⟨_, rfl, _, _, _, _, false, rfl, .ty _, .base (.lst o2), kit_ty (by decide +kernel), _, rfl, iteF ?_⟩
        refine ⟨_, rfl, _, _, _, _, false, rfl, .ty _, .base (.lst o2), kit_ty (by decide +kernel), _, rfl, iteF ?_⟩
        refine ⟨_, rfl, _, _, _, _, false, rfl, .ty _, .base (.lst o2), kit_ty (by decide +kernel), _, rfl, iteF ?_⟩
        refine ⟨_, rfl, _, _, _, _, false, rfl, .ty _, .base (.lst o2), kit_ty (by decide +kernel), _, rfl, iteF ?_⟩
        refine ⟨_, rfl, _, _, _, _, true, rfl, .ty _, .base (.lst o1), kit_ty (by decide +kernel), _, rfl, iteN rfl ⟨_, rfl, _, _, _, _, true, rfl, .ty _, .base (.lst o2), kit_ty (by decide +kernel), _, rfl, iteN rfl ?_⟩⟩
        refine ⟨_, rfl, _, _, rfl, .inl ⟨_, .inl (.inl o1), rfl⟩, _, rfl, _, _, rfl, .inl ⟨_, .inl (.inl o2), rfl⟩, rfl, _, rfl, iteN (by rw [hl]; simp) ?_⟩
        refine ⟨_, rfl, _, _, rfl, .inl ⟨_, .inl (.inl o2), rfl⟩, (ys.length : Int), rfl, by omega, by omega, ?_⟩
        refine for_range (lo := 0) (n := (ys.length : Int).toNat) (fun i σ H' => ∃ z : Option V, σ = [some (.ref p), some (.ref r), z] ∧ H' = H) ⟨none, rfl, rfl⟩ ?_ ?_
        · rintro i σ H' hn ⟨z, rfl, rfl⟩
          have hn' : i < ys.length := hn
          have hx : xs[i]? = some xs[i] := List.getElem?_eq_getElem (by omega)
          have hy : ys[i]? = some ys[i] := List.getElem?_eq_getElem hn'
          refine ⟨_, rfl, _, rfl, .inl ⟨_, _, _, _, rfl, rfl, .inl (.inl o1), (by rw [Int.zero_add]; exact atI_nat hx), _, rfl, _, rfl, .inl ⟨_, _, _, _, rfl, rfl, .inl (.inl o2), (by rw [Int.zero_add]; exact atI_nat hy), _, _, rfl, hi i _ _ hx hy, _, rfl, iteN rfl ⟨_, rfl, rfl⟩⟩⟩⟩
        · rintro σ H' ⟨z, rfl, rfl⟩
          exact q
/-- no promise at all -/
theorem fnOk_none {f : Addr} {fd : FuncData} {ps : List Str} {k : Nat} : FnOk P w K mg base CX0 k f fd ps (sp_sameR fun _ _ _ => False) :=
  ⟨fun vs H Q E h => by obtain ⟨_, _, _, h, _⟩ := h; exact h.elim, fun A outer s H args us vs Q E _ _ _ _ h => by obtain ⟨_, _, _, h, _⟩ := h; exact h.elim⟩
theorem ok_sameN (T : Txt K mg base) : ∀ n : Nat, FnOk P w K mg base CX0 (n + 1) T.f_same T.fd_same ["actual", "expected"] (sp_sameR (SameD n))
  | 0 => same_step T fnOk_none
  | n + 1 => same_step T (ok_sameN T n)
theorem ok_same (T : Txt K mg base) : FnOk P w K mg base CX0 10 T.f_same T.fd_same ["actual", "expected"] (sp_sameR (SameD 9)) := ok_sameN T 9
def sp_sameB (rel : Hp → V → V → Prop) (dp : Hp → V → Prop) : Sp := fun vs H Q _ => ∃ x y : V, vs = [x, y] ∧ dp H x ∧ dp H y ∧ ∀ b : Bool, (b = true ↔ rel H x y) → Q (.bl b) H
theorem sameB_step {rel : Hp → V → V → Prop} {dp : Hp → V → Prop} {j : Nat} (T : Txt K mg base) (G : FnOk P w K mg base CX0 j T.f_same T.fd_same ["actual", "expected"] (sp_sameB rel dp)) :
    FnOk P w K mg base CX0 (j + 1) T.f_same T.fd_same ["actual", "expected"] (sp_sameB (SameR rel) (DeepE dp)) := by
  refine T.F_same.ok sc_same (fun vs H Q E h => ?_) (fun cdv A outer s H vs Q E hr h => ?_)
  · obtain ⟨x, y, rfl, _⟩ := h
    rfl
  · obtain ⟨x, y, rfl, dx, dy, q⟩ := h
    refine ⟨_, (pss_cons (ps_if (pt_cmpR op_isN (pv 1) pe_non (nomark _)) (pss_one (ps_ret (pe_cmpR op_isN (pv 0) pe_non (nomark _)))) pss_nil)
      (pss_cons (ps_if (pt_val (pe_callB call_isi (by rfl) T.z_isinstance (by decide +kernel) (pa_cons (pv 1) (pa_cons (pe_bltn (v := .ty "bool") (by rfl) T.z_bool (by decide +kernel) rfl) pa_nil)))) (pss_one (ps_ret (pe_and (pe_callB call_isi (by rfl) T.z_isinstance (by decide +kernel) (pa_cons (pv 0) (pa_cons (pe_bltn (v := .ty "bool") (by rfl) T.z_bool (by decide +kernel) rfl) pa_nil))) (pe_one (pe_cmpR op_eq (pv 0) (pv 1) (nomark _)))))) pss_nil)
      (pss_cons (ps_if (pt_val (pe_callB call_isi (by rfl) T.z_isinstance (by decide +kernel) (pa_cons (pv 1) (pa_cons (pe_bltn (v := .ty "int") (by rfl) T.z_int (by decide +kernel) rfl) pa_nil)))) (pss_one (ps_ret (pe_and (pe_callB call_isi (by rfl) T.z_isinstance (by decide +kernel) (pa_cons (pv 0) (pa_cons (pe_bltn (v := .ty "int") (by rfl) T.z_int (by decide +kernel) rfl) pa_nil))) (pe_and (pe_not (pe_callB call_isi (by rfl) T.z_isinstance (by decide +kernel) (pa_cons (pv 0) (pa_cons (pe_bltn (v := .ty "bool") (by rfl) T.z_bool (by decide +kernel) rfl) pa_nil)))) (pe_one (pe_cmpR op_eq (pv 0) (pv 1) (nomark _))))))) pss_nil)
      (pss_cons (ps_if (pt_val (pe_callB call_isi (by rfl) T.z_isinstance (by decide +kernel) (pa_cons (pv 1) (pa_cons (pe_bltn (v := .ty "str") (by rfl) T.z_str (by decide +kernel) rfl) pa_nil)))) (pss_one (ps_ret (pe_and (pe_callB call_isi (by rfl) T.z_isinstance (by decide +kernel) (pa_cons (pv 0) (pa_cons (pe_bltn (v := .ty "str") (by rfl) T.z_str (by decide +kernel) rfl) pa_nil))) (pe_one (pe_cmpR op_eq (pv 0) (pv 1) (nomark _)))))) pss_nil)
      (pss_cons (ps_if (pt_val (pe_callB call_isi (by rfl) T.z_isinstance (by decide +kernel) (pa_cons (pv 1) (pa_cons (pe_bltn (v := .ty "tuple") (by rfl) T.z_tuple (by decide +kernel) rfl) pa_nil)))) (pss_one (ps_if (pt_not (pt_val (pe_callB call_isi (by rfl) T.z_isinstance (by decide +kernel) (pa_cons (pv 0) (pa_cons (pe_bltn (v := .ty "tuple") (by rfl) T.z_tuple (by decide +kernel) rfl) pa_nil))))) (pss_one (ps_ret pe_bl)) pss_nil)) (pss_one (ps_if (PW.pt (pw_or (pt_not (pt_val (pe_callB call_isi (by rfl) T.z_isinstance (by decide +kernel) (pa_cons (pv 0) (pa_cons (pe_bltn (v := .ty "list") (by rfl) T.z_list (by decide +kernel) rfl) pa_nil))))) (pw_or1 (pt_not (pt_val (pe_callB call_isi (by rfl) T.z_isinstance (by decide +kernel) (pa_cons (pv 1) (pa_cons (pe_bltn (v := .ty "list") (by rfl) T.z_list (by decide +kernel) rfl) pa_nil)))))))) (pss_one (ps_ret pe_bl)) pss_nil)))
      (pss_cons (ps_if (pt_cmpR op_ne (pe_callB call_len (by rfl) T.z_len PySem.boot_len (pa_cons (pv 0) pa_nil)) (pe_callB call_len (by rfl) T.z_len PySem.boot_len (pa_cons (pv 1) pa_nil)) (nomark _)) (pss_one (ps_ret pe_bl)) pss_nil)
      (pss_cons (ps_for PassesOwn.never rfl (pi_range1 (by rfl) T.z_range (pa_cons (pe_callB call_len (by rfl) T.z_len PySem.boot_len (pa_cons (pv 1) pa_nil)) pa_nil)) (pg_name (i := 2) sc_same.nd rfl (.inl rfl)) (pss_one (ps_if (pt_not (pt_val (pe_call G (hr.mono (by first | decide | exact Nat.le_refl _)) (by rfl) T.g_same T.F_same.kp T.b_same .nil pass0 (pa_cons (pe_ix ix_seq (pv 0) (pv 2) (fun _ _ => rfl)) (pa_cons (pe_ix ix_seq (pv 1) (pv 2) (fun _ _ => rfl)) pa_nil))))) (pss_one (ps_ret pe_bl)) pss_nil)))
      (pss_one (ps_ret pe_bl))))))))), ?_⟩
    have sx := dx.shal
    have atom : plainV y = true → ∀ b : Bool, (b = true ↔ x = y) → Q (.bl b) H := fun pl b e => q b (e.trans (same_atom pl).symm)
    cases y with
    | non => exact ⟨_, rfl, rfl, _, rfl, iteC rfl ⟨_, rfl, rfl, atom rfl _ decide_eq_true_iff⟩⟩
    | bl b =>
      refine ⟨_, rfl, rfl, _, rfl, iteN rfl ⟨_, rfl, _, _, _, _, true, rfl, .ty _, .base (.bl b), kit_ty (by decide +kernel), _, rfl, iteT ?_⟩⟩
      obtain ⟨t, ht, kt⟩ := isi_bool (K := K) sx
      refine ⟨_, rfl, _, _, _, _, _, rfl, .ty _, ht, kt, _, rfl, ?_⟩
      cases e : isBl x with
      | false => exact iteF (atom rfl false ⟨fun h => (by cases h), fun h => by rw [h] at e; cases e⟩)
      | true =>
        have : scal x (.bl b) = true := by
          cases x <;> first | rfl | cases e
        exact iteT ⟨_, rfl, _, rfl, this, atom rfl _ decide_eq_true_iff⟩
    | int b =>
      refine ⟨_, rfl, rfl, _, rfl, iteN rfl ⟨_, rfl, _, _, _, _, false, rfl, .ty _, .base (.int b), kit_ty (by decide +kernel), _, rfl, iteF ?_⟩⟩
      refine ⟨_, rfl, _, _, _, _, true, rfl, .ty _, .base (.int b), kit_ty (by decide +kernel), _, rfl, iteT ?_⟩
      obtain ⟨t, ht, kt⟩ := isi_int (K := K) sx
      obtain ⟨t2, ht2, kt2⟩ := isi_bool (K := K) sx
      refine ⟨_, rfl, _, _, _, _, _, rfl, .ty _, ht, kt, _, rfl, ?_⟩
      cases e : (isInt x || isBl x) with
      | false => exact iteF (atom rfl false ⟨fun h => (by cases h), fun h => by rw [h] at e; cases e⟩)
      | true =>
        refine iteT ⟨_, rfl, _, _, _, _, _, rfl, .ty _, ht2, kt2, _, rfl, _, rfl, ?_⟩
        cases e2 : isBl x with
        | true => exact iteF (atom rfl false ⟨fun h => (by cases h), fun h => by rw [h] at e2; cases e2⟩)
        | false =>
          have : scal x (.int b) = true := by
            cases x <;> first | rfl | (cases e2; done) | (cases e; done)
          exact iteT ⟨_, rfl, _, rfl, this, atom rfl _ decide_eq_true_iff⟩
    | str b =>
      refine ⟨_, rfl, rfl, _, rfl, iteN rfl ⟨_, rfl, _, _, _, _, false, rfl, .ty _, .base (.str b), kit_ty (by decide +kernel), _, rfl, iteF ?_⟩⟩
      refine ⟨_, rfl, _, _, _, _, false, rfl, .ty _, .base (.str b), kit_ty (by decide +kernel), _, rfl, iteF ?_⟩
      refine ⟨_, rfl, _, _, _, _, true, rfl, .ty _, .base (.str b), kit_ty (by decide +kernel), _, rfl, iteT ?_⟩
      obtain ⟨t, ht, kt⟩ := isi_str (K := K) sx
      refine ⟨_, rfl, _, _, _, _, _, rfl, .ty _, ht, kt, _, rfl, ?_⟩
      cases e : isStr x with
      | false => exact iteF (atom rfl false ⟨fun h => (by cases h), fun h => by rw [h] at e; cases e⟩)
      | true =>
        have : scal x (.str b) = true := by
          cases x <;> first | rfl | cases e
        exact iteT ⟨_, rfl, _, rfl, this, atom rfl _ decide_eq_true_iff⟩
    | byt b => rcases dy with ⟨pl, _⟩ | ⟨r, ys, e, _⟩ <;> first | cases pl | cases e
    | flt b => rcases dy with ⟨pl, _⟩ | ⟨r, ys, e, _⟩ <;> first | cases pl | cases e
    | ty b => rcases dy with ⟨pl, _⟩ | ⟨r, ys, e, _⟩ <;> first | cases pl | cases e
    | ref r =>
      rcases dy with ⟨pl, _⟩ | ⟨r', ys, e, o, ly, hy⟩
      · cases pl
      cases e
      refine ⟨_, rfl, rfl, _, rfl, iteN rfl ?_⟩
      rcases o with o2 | o2
      · refine ⟨_, rfl, _, _, _, _, false, rfl, .ty _, .base (.lst o2), kit_ty (by decide +kernel), _, rfl, iteF ?_⟩
        refine ⟨_, rfl, _, _, _, _, false, rfl, .ty _, .base (.lst o2), kit_ty (by decide +kernel), _, rfl, iteF ?_⟩
        refine ⟨_, rfl, _, _, _, _, false, rfl, .ty _, .base (.lst o2), kit_ty (by decide +kernel), _, rfl, iteF ?_⟩
        refine ⟨_, rfl, _, _, _, _, false, rfl, .ty _, .base (.lst o2), kit_ty (by decide +kernel), _, rfl, iteF ?_⟩
        obtain ⟨t, b, ht, kt, hb⟩ := isi_lst (K := K) sx
        refine ⟨_, rfl, _, _, _, _, _, rfl, .ty _, ht, kt, _, rfl, ?_⟩
        cases b with
        | false =>
          refine iteC rfl (iteC rfl (q false ⟨fun h => (by cases h), fun h => ?_⟩))
          rcases h with ⟨e, pl⟩ | ⟨p', q', xs', ys', e1, e2, h, _⟩
          · cases pl
          · cases e2
            have z : false = true := (h.elim (fun z => (by rw [z.2] at o2; cases o2)) fun z => hb.mpr ⟨p', xs', e1, z.1⟩)
            cases z
        | true =>
        obtain ⟨p, xs, rfl, o1⟩ := hb.mp rfl
        refine iteN rfl ⟨_, rfl, _, _, _, _, true, rfl, .ty _, .base (.lst o2), kit_ty (by decide +kernel), _, rfl, iteN rfl ?_⟩
        have hx : xs.length ≤ 4000000 ∧ ∀ x ∈ xs, dp H x := by
          rcases dx with ⟨pl, _⟩ | ⟨p', xs', e, o, l, h⟩
          · cases pl
          · cases e
            have := same_row o (.inl o1)
            subst this
            exact ⟨l, h⟩
        refine ⟨_, rfl, _, _, rfl, .inl ⟨_, .inl (.inl o1), rfl⟩, _, rfl, _, _, rfl, .inl ⟨_, .inl (.inl o2), rfl⟩, rfl, _, rfl, ?_⟩
        have rows : ∀ h : SameR rel H (.ref p) (.ref r), xs.length = ys.length ∧ ∀ (i : Nat) (x' y' : V), xs[i]? = some x' → ys[i]? = some y' → rel H x' y' := fun h => by
          rcases h with ⟨_, pl⟩ | ⟨p', q', xs', ys', e1, e2, h, l, _, rr⟩
          · cases pl
          · cases e1
            cases e2
            have g1 := same_row (h.elim (fun z => .inr z.1) fun z => .inl z.1) (.inl o1)
            have g2 := same_row (h.elim (fun z => .inr z.2) fun z => .inl z.2) (.inl o2)
            subst g1
            subst g2
            exact ⟨l, rr⟩
        by_cases hl : xs.length = ys.length
        · refine iteN (by rw [hl]; simp) ?_
          refine ⟨_, rfl, _, _, rfl, .inl ⟨_, .inl (.inl o2), rfl⟩, (ys.length : Int), rfl, by omega, by omega, ?_⟩
          refine for_range (lo := 0) (n := (ys.length : Int).toNat) (fun i σ H' => ∃ z : Option V, σ = [some (.ref p), some (.ref r), z] ∧ H' = H ∧ ∀ k : Nat, k < i → ∀ x' y' : V, xs[k]? = some x' → ys[k]? = some y' → rel H x' y') ⟨none, rfl, rfl, fun k h => by omega⟩ ?_ ?_
          · rintro i σ H' hn ⟨z, rfl, rfl, done⟩
            have hn' : i < ys.length := hn
            have hx' : xs[i]? = some xs[i] := List.getElem?_eq_getElem (by omega)
            have hy' : ys[i]? = some ys[i] := List.getElem?_eq_getElem hn'
            refine ⟨_, rfl, _, rfl, .inl ⟨_, _, _, _, rfl, rfl, .inl (.inl o1), (by rw [Int.zero_add]; exact atI_nat hx'), _, rfl, _, rfl, .inl ⟨_, _, _, _, rfl, rfl, .inl (.inl o2), (by rw [Int.zero_add]; exact atI_nat hy'), _, _, rfl, hx.2 _ (List.getElem_mem _), hy _ (List.getElem_mem _), fun b hb => ⟨_, rfl, ?_⟩⟩⟩⟩
            cases b with
            | false =>
              refine iteC rfl (q false ⟨fun h => (by cases h), fun h => ?_⟩)
              cases hb.mpr ((rows h).2 i _ _ hx' hy')
            | true =>
              refine iteN rfl ⟨_, rfl, rfl, fun k hk x' y' ex ey => ?_⟩
              by_cases g : k < i
              · exact done k g x' y' ex ey
              · have g : k = i := by omega
                subst g
                rw [hx'] at ex
                rw [hy'] at ey
                cases ex
                cases ey
                exact hb.mp rfl
          · rintro σ H' ⟨z, rfl, rfl, done⟩
            refine q true ⟨fun _ => .inr ⟨p, r, xs, ys, rfl, rfl, .inr ⟨o1, o2⟩, hl, ly, fun i x' y' ex ey => done i ?_ x' y' ex ey⟩, fun _ => rfl⟩
            have := (List.getElem?_eq_some_iff.mp ey).1
            show i < (ys.length : Int).toNat
            omega
        · refine iteC (by rw [decide_eq_false (fun e => hl (by have := V.int.inj e; omega))]; rfl) (q false ⟨fun h => (by cases h), fun h => (hl (rows h).1).elim⟩)
      · refine ⟨_, rfl, _, _, _, _, false, rfl, .ty _, .base (.tup o2), kit_ty (by decide +kernel), _, rfl, iteF ?_⟩
        refine ⟨_, rfl, _, _, _, _, false, rfl, .ty _, .base (.tup o2), kit_ty (by decide +kernel), _, rfl, iteF ?_⟩
        refine ⟨_, rfl, _, _, _, _, false, rfl, .ty _, .base (.tup o2), kit_ty (by decide +kernel), _, rfl, iteF ?_⟩
        refine ⟨_, rfl, _, _, _, _, true, rfl, .ty _, .base (.tup o2), kit_ty (by decide +kernel), _, rfl, iteT ?_⟩
        obtain ⟨t, b, ht, kt, hb⟩ := isi_tup (K := K) sx
        refine ⟨_, rfl, _, _, _, _, _, rfl, .ty _, ht, kt, _, rfl, ?_⟩
        cases b with
        | false =>
          refine iteC rfl (q false ⟨fun h => (by cases h), fun h => ?_⟩)
          rcases h with ⟨e, pl⟩ | ⟨p', q', xs', ys', e1, e2, h, _⟩
          · cases pl
          · cases e2
            have z : false = true := (h.elim (fun z => hb.mpr ⟨p', xs', e1, z.1⟩) fun z => (by rw [z.2] at o2; cases o2))
            cases z
        | true =>
        obtain ⟨p, xs, rfl, o1⟩ := hb.mp rfl
        refine iteF ?_
        have hx : xs.length ≤ 4000000 ∧ ∀ x ∈ xs, dp H x := by
          rcases dx with ⟨pl, _⟩ | ⟨p', xs', e, o, l, h⟩
          · cases pl
          · cases e
            have := same_row o (.inr o1)
            subst this
            exact ⟨l, h⟩
        refine ⟨_, rfl, _, _, rfl, .inr ⟨_, .inl (.inl o1), rfl⟩, _, rfl, _, _, rfl, .inr ⟨_, .inl (.inl o2), rfl⟩, rfl, _, rfl, ?_⟩
        have rows : ∀ h : SameR rel H (.ref p) (.ref r), xs.length = ys.length ∧ ∀ (i : Nat) (x' y' : V), xs[i]? = some x' → ys[i]? = some y' → rel H x' y' := fun h => by
          rcases h with ⟨_, pl⟩ | ⟨p', q', xs', ys', e1, e2, h, l, _, rr⟩
          · cases pl
          · cases e1
            cases e2
            have g1 := same_row (h.elim (fun z => .inr z.1) fun z => .inl z.1) (.inr o1)
            have g2 := same_row (h.elim (fun z => .inr z.2) fun z => .inl z.2) (.inr o2)
            subst g1
            subst g2
            exact ⟨l, rr⟩
        by_cases hl : xs.length = ys.length
        · refine iteN (by rw [hl]; simp) ?_
          refine ⟨_, rfl, _, _, rfl, .inr ⟨_, .inl (.inl o2), rfl⟩, (ys.length : Int), rfl, by omega, by omega, ?_⟩
          refine for_range (lo := 0) (n := (ys.length : Int).toNat) (fun i σ H' => ∃ z : Option V, σ = [some (.ref p), some (.ref r), z] ∧ H' = H ∧ ∀ k : Nat, k < i → ∀ x' y' : V, xs[k]? = some x' → ys[k]? = some y' → rel H x' y') ⟨none, rfl, rfl, fun k h => by omega⟩ ?_ ?_
          · rintro i σ H' hn ⟨z, rfl, rfl, done⟩
            have hn' : i < ys.length := hn
            have hx' : xs[i]? = some xs[i] := List.getElem?_eq_getElem (by omega)
            have hy' : ys[i]? = some ys[i] := List.getElem?_eq_getElem hn'
            refine ⟨_, rfl, _, rfl, .inr (.inl ⟨_, _, _, _, rfl, rfl, .inl (.inl o1), (by rw [Int.zero_add]; exact atI_nat hx'), _, rfl, _, rfl, .inr (.inl ⟨_, _, _, _, rfl, rfl, .inl (.inl o2), (by rw [Int.zero_add]; exact atI_nat hy'), _, _, rfl, hx.2 _ (List.getElem_mem _), hy _ (List.getElem_mem _), fun b hb => ⟨_, rfl, ?_⟩⟩)⟩)⟩
            cases b with
            | false =>
              refine iteC rfl (q false ⟨fun h => (by cases h), fun h => ?_⟩)
              cases hb.mpr ((rows h).2 i _ _ hx' hy')
            | true =>
              refine iteN rfl ⟨_, rfl, rfl, fun k hk x' y' ex ey => ?_⟩
              by_cases g : k < i
              · exact done k g x' y' ex ey
              · have g : k = i := by omega
                subst g
                rw [hx'] at ex
                rw [hy'] at ey
                cases ex
                cases ey
                exact hb.mp rfl
          · rintro σ H' ⟨z, rfl, rfl, done⟩
            refine q true ⟨fun _ => .inr ⟨p, r, xs, ys, rfl, rfl, .inl ⟨o1, o2⟩, hl, ly, fun i x' y' ex ey => done i ?_ x' y' ex ey⟩, fun _ => rfl⟩
            have := (List.getElem?_eq_some_iff.mp ey).1
            show i < (ys.length : Int).toNat
            omega
        · refine iteC (by rw [decide_eq_false (fun e => hl (by have := V.int.inj e; omega))]; rfl) (q false ⟨fun h => (by cases h), fun h => (hl (rows h).1).elim⟩)
theorem fnOk_noSame {f : Addr} {fd : FuncData} {ps : List Str} {k : Nat} : FnOk P w K mg base CX0 k f fd ps (sp_sameB (fun _ _ _ => False) fun _ _ => False) :=
  ⟨fun vs H Q E h => by obtain ⟨_, _, _, h, _⟩ := h; exact h.elim, fun A outer s H args us vs Q E _ _ _ _ h => by obtain ⟨_, _, _, h, _⟩ := h; exact h.elim⟩
theorem ok_sameBN (T : Txt K mg base) : ∀ n : Nat, FnOk P w K mg base CX0 (n + 1) T.f_same T.fd_same ["actual", "expected"] (sp_sameB (SameD n) (DeepN n))
  | 0 => sameB_step T fnOk_noSame
  | n + 1 => sameB_step T (ok_sameBN T n)
theorem ok_sameB (T : Txt K mg base) : FnOk P w K mg base CX0 10 T.f_same T.fd_same ["actual", "expected"] (sp_sameB (SameD 9) (DeepN 9)) := ok_sameBN T 9

def sp_Session___iter__ (C : Addr) (K : PySem.W.Frag) (z : Nat) : Sp := fun vs H Q _ => ∃ (a dx : Addr) (fs : List (Str × V)) (l : Addr) (xs : List V), vs = [.ref a] ∧ H a = some (.ins C dx fs) ∧ fs.lookup ("_pushed" : Str) = some (.ref l) ∧ SqL K H l xs ∧ ∀ it, H it = none → z ≤ it → Q (.ref it) (upd H it (L2.ItO l it 0))
theorem yg_Session___iter__ (T : Txt K mg base) : Own.FnY P w K mg base (0 + 1) T.f_Session___iter__ T.fd_Session___iter__ ["self"] (sp_Session___iter__ T.C_Session K) := by
  refine Own.fn_young T.F_Session___iter__ sc_Session___iter__ (fun z vs H Q E h => ?_) (fun cdv A outer s H vs Q E hr h => ?_)
  · obtain ⟨a, dx, fs, l, xs, rfl, _⟩ := h
    rfl
  · obtain ⟨a, dx, fs, l, xs, rfl, ha, lk, hl, q⟩ := h
    refine ⟨_, (pss_one (ps_ret (pe_callB ItX.call_iterN (by rfl) T.z_iter (by decide +kernel) (pa_cons (pe_fld (pv 0) rfl) pa_nil)))), ?_⟩
    exact ⟨_, rfl, a, _, dx, fs, _, rfl, ha, T.cl_Session, T.no_Session__pushed, lk, l, xs, rfl, hl, q⟩

def sp_Session___len__ (C : Addr) (_ : PySem.W.Frag) : Sp := fun vs H Q _ => ∃ (a dx : Addr) (fs : List (Str × V)) (M : Addr) (xs : List V), vs = [.ref a] ∧ H a = some (.ins C dx fs) ∧ fs.lookup ("_pushed" : Str) = some (.ref M) ∧ H M = some (.lst xs) ∧ Q (.int (xs.length : Int)) H
theorem ok_Session___len__ (T : Txt K mg base) : FnOk P w K mg base CX0 (0 + 1) T.f_Session___len__ T.fd_Session___len__ ["self"] (sp_Session___len__ T.C_Session K) := by
  refine T.F_Session___len__.ok sc_Session___len__ (fun vs H Q E h => ?_) (fun cdv A outer s H vs Q E hr h => ?_)
  · obtain ⟨a, dx, fs, M, xs, rfl, _⟩ := h
    rfl
  · obtain ⟨a, dx, fs, M, xs, rfl, ha, lk, hM, q⟩ := h
    refine ⟨_, (pss_one (ps_ret (pe_callB call_len_seq (by rfl) T.z_len PySem.boot_len (pa_cons (pe_fld (pv 0) rfl) pa_nil)))), ?_⟩
    exact ⟨_, rfl, a, _, dx, fs, _, rfl, ha, T.cl_Session, T.no_Session__pushed, lk, M, xs, rfl, .inl (.inl (.inl hM)), q⟩

def sp_Session_closed [Tabl] (C : Addr) (K : PySem.W.Frag) : Sp := fun vs H Q _ => ∃ (s : Addr) (r f : Str) (mv : Grid) (fin : List (Option Str)) (dx m M F P S : Addr) (ps : List (Nat × Str)) (qs : List Nat) (q : Nat) (c : Bool) (L : List Addr), vs = [.ref s] ∧ SeA C L H s r f mv fin dx m M F P S ps qs q c ∧ Q (.bl c) H
theorem ok_Session_closed (T : Txt K mg base) : FnOk P w K mg base CX0 (0 + 1) T.f_Session_closed T.fd_Session_closed ["self"] (sp_Session_closed T.C_Session K) := by
  refine T.F_Session_closed.ok sc_Session_closed (fun vs H Q E h => ?_) (fun cdv A outer st H vs Q E hr h => ?_)
  · obtain ⟨s, r, f, mv, fin, dx, m, M, F, P, S, ps, qs, q, c, L, rfl, _⟩ := h
    rfl
  · obtain ⟨s, r, f, mv, fin, dx, m, M, F, P, S, ps, qs, q, c, L, rfl, D, k⟩ := h
    refine ⟨_, (pss_one (ps_ret (pe_fld (pv 0) rfl))), ?_⟩
    exact ⟨_, rfl, s, _, dx, _, _, rfl, D.ins, T.cl_Session, T.no_Session__closed, sfs_closed, k⟩

def hldV (o : Option Str) : V := match o with | none => .non | some x => .int (x.length : Int)
def sp_Session_held [Tabl] (C : Addr) (K : PySem.W.Frag) : Sp := fun vs H Q _ => ∃ (s : Addr) (r z f : Str) (mv : Grid) (fin : List (Option Str)) (dx m M F P S : Addr) (ps : List (Nat × Str)) (qs : List Nat) (q : Nat) (c : Bool) (L : List Addr), vs = [.ref s] ∧ SeA C L H s r f mv fin dx m M F P S ps qs q c ∧ GoodR r z f mv fin ∧
  Q (if c then .int 0 else hldV (fin[q]?.join)) H
theorem ok_Session_held (T : Txt K mg base) : FnOk P w K mg base CX0 (0 + 1) T.f_Session_held T.fd_Session_held ["self"] (sp_Session_held T.C_Session K) := by
  refine T.F_Session_held.ok sc_Session_held (fun vs H Q E h => ?_) (fun cdv A outer st H vs Q E hr h => ?_)
  · obtain ⟨s, r, z, f, mv, fin, dx, m, M, F, P, S, ps, qs, q, c, L, rfl, _⟩ := h
    rfl
  · obtain ⟨s, r, z, f, mv, fin, dx, m, M, F, P, S, ps, qs, q, c, L, rfl, D, g, k⟩ := h
    refine ⟨_, (pss_cons (ps_if (pt_val (pe_fld (pv 0) rfl)) (pss_one (ps_ret pe_int)) pss_nil)
      (pss_cons (ps_set (i := 1) sc_Session_held.nd rfl (.inl rfl) (pe_ix ix_list (pe_fld (pv 0) rfl) (pe_ix ix_list (pe_fld (pv 0) rfl) (pe_un un_neg pe_int) (fun _ _ => rfl)) (fun _ _ => rfl)))
      (pss_one (ps_ret (pe_ifExp (pt_cmpR op_isN (pv 1) pe_non (nomark _)) pe_non (pe_callB call_len_str (by rfl) T.z_len PySem.boot_len (pa_cons (pv 1) pa_nil))))))), ?_⟩
    obtain ⟨lq, _, _⟩ := D.tk.lt g
    have lfin := g.lfin
    refine ⟨_, rfl, s, _, dx, _, _, rfl, D.ins, T.cl_Session, T.no_Session__closed, sfs_closed, _, rfl, ?_⟩
    cases c with
    | true => exact iteC rfl k
    | false =>
      refine iteN rfl ?_
      have fe : fin[q]? = some (fin[q]'(by omega)) := List.getElem?_eq_getElem (by omega)
      have fv : (fin.map finV)[q]? = some (finV (fin[q]'(by omega))) := by rw [List.getElem?_map, fe]; rfl
      rw [fe] at k
      have fm : fin[q]'(by omega) ∈ fin := List.getElem_mem _
      generalize fin[q]'(by omega) = o at fe fv k fm
      refine ⟨_, rfl, s, _, dx, _, _, rfl, D.ins, T.cl_Session, T.no_Session__lasts, sfs_lasts, _, rfl, s, _, dx, _, _, rfl, D.ins, T.cl_Session, T.no_Session__states, sfs_states, _, rfl, S, _, _, _, rfl, rfl, .inl (.inl D.hs), atI_last _ _, F, _, _, _, rfl, rfl, .inl (.inl D.hf), atI_nat fv, ?_⟩
      refine ⟨_, rfl, rfl, _, rfl, ?_⟩
      cases o with
      | none => exact iteC rfl k
      | some x => exact iteN rfl ⟨_, rfl, x, rfl, small_text (by have := (g.fin x fm).2; omega), k⟩

def sp_Session_state [Tabl] (C : Addr) (K : PySem.W.Frag) : Sp := fun vs H Q _ => ∃ (s : Addr) (r f : Str) (mv : Grid) (fin : List (Option Str)) (dx m M F P S : Addr) (ps : List (Nat × Str)) (qs : List Nat) (q : Nat) (c : Bool) (L : List Addr), vs = [.ref s] ∧ SeA C L H s r f mv fin dx m M F P S ps qs q c ∧ Q (.int (q : Int)) H
theorem ok_Session_state (T : Txt K mg base) : FnOk P w K mg base CX0 (0 + 1) T.f_Session_state T.fd_Session_state ["self"] (sp_Session_state T.C_Session K) := by
  refine T.F_Session_state.ok sc_Session_state (fun vs H Q E h => ?_) (fun cdv A outer st H vs Q E hr h => ?_)
  · obtain ⟨s, r, f, mv, fin, dx, m, M, F, P, S, ps, qs, q, c, L, rfl, _⟩ := h
    rfl
  · obtain ⟨s, r, f, mv, fin, dx, m, M, F, P, S, ps, qs, q, c, L, rfl, D, k⟩ := h
    refine ⟨_, (pss_one (ps_ret (pe_ix ix_list (pe_fld (pv 0) rfl) (pe_un un_neg pe_int) (fun _ _ => rfl)))), ?_⟩
    exact ⟨_, rfl, s, _, dx, _, _, rfl, D.ins, T.cl_Session, T.no_Session__states, sfs_states, _, rfl, S, _, _, _, rfl, rfl, .inl (.inl D.hs), atI_last _ _, k⟩

def sp_Session_taken [Tabl] (C : Addr) (K : PySem.W.Frag) : Sp := fun vs H Q _ => ∃ (s : Addr) (r f : Str) (mv : Grid) (fin : List (Option Str)) (dx m M F P S : Addr) (ps : List (Nat × Str)) (qs : List Nat) (q : Nat) (c : Bool) (L : List Addr), vs = [.ref s] ∧ SeA C L H s r f mv fin dx m M F P S ps qs q c ∧ ps.length ≤ 9000 ∧ ∀ H', Same H H' → Q (.str (takS ps)) H'
theorem ok_Session_taken (T : Txt K mg base) : FnOk P w K mg base CX0 (0 + 1) T.f_Session_taken T.fd_Session_taken ["self"] (sp_Session_taken T.C_Session K) := by
  refine T.F_Session_taken.ok sc_Session_taken (fun vs H Q E h => ?_) (fun cdv A outer st H vs Q E hr h => ?_)
  · obtain ⟨s, r, f, mv, fin, dx, m, M, F, P, S, ps, qs, q, c, L, rfl, _⟩ := h
    rfl
  · obtain ⟨s, r, f, mv, fin, dx, m, M, F, P, S, ps, qs, q, c, L, rfl, D, lp, k⟩ := h
    refine ⟨_, (pss_one (ps_ret (pe_join pe_str (pe_lc (own := [("letter", 1), ("_", 2)]) (g := gTup K 2 (gCons (gName 1) (gCons (gName 2) gNil))) rfl sc_Session_taken.nd (pi_list (pe_fld (pv 0) rfl)) (blkOk_by (N := ["self", "letter", "_"]) (sc := defScope s_Session_taken) (by decide +kernel)) (fun _ _ _ _ _ => pg_tup (n := 2) (by rfl) (pgs_cons (pg_name (i := 1) sc_Session_taken.nd rfl (Or.inl rfl)) (pgs_cons (pg_name (i := 2) sc_Session_taken.nd rfl (Or.inl rfl)) pgs_nil))) (fun _ _ _ _ _ => pts_nil) (fun _ _ _ _ _ => (pv 1)))))), ?_⟩
    obtain ⟨xs, hp, en⟩ := D.hp
    refine ⟨⟨_, rfl⟩, _, rfl, s, _, dx, _, _, rfl, D.ins, T.cl_Session, T.no_Session__pushed, sfs_pushed, P, rfl, ⟨_, .inl (.inl hp)⟩, fun D1 nD1 => ?_⟩
    refine lc_vals9 (val := fun e => V.str (⟨#[e.1]⟩ : Str)) hp en lp nD1 (fun t e G k' N me sg ht qk => ?_) fun H1 s1 hD1 => ?_
    · exact ⟨t, _, rfl, .inl (.inl ht), rfl, _, _, rfl, _, _, rfl, rfl, rfl, _, rfl, qk⟩
    · refine ⟨_, D1, ps.map fun e : Nat × Str => (⟨#[e.1]⟩ : Str), rfl, rfl, .inl (.inl (.inl ?_)), ?_, k H1 s1⟩
      · rw [hD1, List.map_map]
        rfl
      · have e0 := join0_len (ps.map fun e => (⟨#[e.1]⟩ : Str))
        have e1 := takS_len ps
        unfold takS at e1
        rw [← e0, e1]
        show ps.length + _ * 0 ≤ _
        omega

def sp_Session_written [Tabl] (C : Addr) (K : PySem.W.Frag) : Sp := fun vs H Q _ => ∃ (s : Addr) (r z f : Str) (mv : Grid) (fin : List (Option Str)) (dx m M F P S : Addr) (ps : List (Nat × Str)) (qs : List Nat) (q : Nat) (c : Bool) (L : List Addr), vs = [.ref s] ∧ SeA C L H s r f mv fin dx m M F P S ps qs q c ∧ GoodR r z f mv fin ∧ ps.length ≤ 9000 ∧
  ∀ H', Same H H' → Q (.str (f ++ wrtS ps ++ (if c then (fin[q]?.join).getD (Str.ofString "") else Str.ofString ""))) H'
theorem ok_Session_written (T : Txt K mg base) : FnOk P w K mg base CX0 (0 + 1) T.f_Session_written T.fd_Session_written ["self"] (sp_Session_written T.C_Session K) := by
  refine T.F_Session_written.ok sc_Session_written (fun vs H Q E h => ?_) (fun cdv A outer st H vs Q E hr h => ?_)
  · obtain ⟨s, r, z, f, mv, fin, dx, m, M, F, P, S, ps, qs, q, c, L, rfl, _⟩ := h
    rfl
  · obtain ⟨s, r, z, f, mv, fin, dx, m, M, F, P, S, ps, qs, q, c, L, rfl, D, g, lp, k⟩ := h
    refine ⟨_, (pss_cons (ps_set (i := 1) sc_Session_written.nd rfl (.inl rfl) (pe_ifExp (pt_val (pe_fld (pv 0) rfl)) (pe_ix ix_list (pe_fld (pv 0) rfl) (pe_ix ix_list (pe_fld (pv 0) rfl) (pe_un un_neg pe_int) (fun _ _ => rfl)) (fun _ _ => rfl)) pe_str))
      (pss_one (ps_ret (pe_op op_add_str (pe_op op_add_str (pe_fld (pv 0) rfl) (pe_join pe_str (pe_lc (own := [("_", 2), ("word", 3)]) (g := gTup K 2 (gCons (gName 2) (gCons (gName 3) gNil))) rfl sc_Session_written.nd (pi_list (pe_fld (pv 0) rfl)) (blkOk_by (N := ["self", "last", "_", "word"]) (sc := defScope s_Session_written) (by decide +kernel)) (fun _ _ _ _ _ => pg_tup (n := 2) (by rfl) (pgs_cons (pg_name (i := 2) sc_Session_written.nd rfl (Or.inl rfl)) (pgs_cons (pg_name (i := 3) sc_Session_written.nd rfl (Or.inl rfl)) pgs_nil))) (fun _ _ _ _ _ => pts_nil) (fun _ _ _ _ _ => (pv 3))))) (pv 1))))), ?_⟩
    obtain ⟨lq, ow, lw⟩ := D.tk.lt g
    have lfin := g.lfin
    have lf := g.lf
    obtain ⟨xs, hp, en⟩ := D.hp
    refine ⟨_, rfl, s, _, dx, _, _, rfl, D.ins, T.cl_Session, T.no_Session__closed, sfs_closed, _, rfl, ?_⟩
    have small : (wrtS ps).length ≤ 3600000 := by omega
    have sums : ((ps.map Prod.snd).map (·.length)).sum + (ps.map Prod.snd).length * (Str.ofString "").length ≤ 16777216 := by
      have e := join0_len (ps.map Prod.snd)
      rw [← e]
      show (wrtS ps).length + _ * 0 ≤ _
      omega
    cases c with
    | true =>
      obtain ⟨x, hx⟩ := D.cl rfl
      have lx := (g.fin x (List.mem_of_getElem? hx)).2
      have fv : (fin.map finV)[q]? = some (.str x) := by rw [List.getElem?_map, hx]; rfl
      rw [hx] at k
      refine iteC rfl ?_
      refine ⟨_, rfl, s, _, dx, _, _, rfl, D.ins, T.cl_Session, T.no_Session__lasts, sfs_lasts, _, rfl, s, _, dx, _, _, rfl, D.ins, T.cl_Session, T.no_Session__states, sfs_states, _, rfl, S, _, _, _, rfl, rfl, .inl (.inl D.hs), atI_last _ _, F, _, _, _, rfl, rfl, .inl (.inl D.hf), atI_nat fv, ?_⟩
      refine ⟨_, rfl, s, _, dx, _, _, rfl, D.ins, T.cl_Session, T.no_Session__first, sfs_first, ⟨_, rfl⟩, _, rfl, s, _, dx, _, _, rfl, D.ins, T.cl_Session, T.no_Session__pushed, sfs_pushed, P, rfl, ⟨_, .inl (.inl hp)⟩, fun D1 nD1 => ?_⟩
      refine lc_vals9 (val := fun e => V.str e.2) hp en lp nD1 (fun t e G k' N me sg ht qk => ?_) fun H1 s1 hD1 => ?_
      · exact ⟨t, _, rfl, .inl (.inl ht), rfl, _, _, rfl, _, _, rfl, rfl, rfl, _, rfl, qk⟩
      · refine ⟨_, D1, ps.map Prod.snd, rfl, rfl, .inl (.inl (.inl (by rw [hD1, List.map_map]; rfl))), sums, _, _, rfl, rfl, Nat.le_trans (show f.length + (wrtS ps).length ≤ 4000000 by omega) (by decide), _, rfl, _, _, rfl, rfl, Nat.le_trans (show (f ++ wrtS ps).length + x.length ≤ 4000000 by rw [length_app]; omega) (by decide), k H1 s1⟩
    | false =>
      refine iteN rfl ?_
      refine ⟨_, rfl, s, _, dx, _, _, rfl, D.ins, T.cl_Session, T.no_Session__first, sfs_first, ⟨_, rfl⟩, _, rfl, s, _, dx, _, _, rfl, D.ins, T.cl_Session, T.no_Session__pushed, sfs_pushed, P, rfl, ⟨_, .inl (.inl hp)⟩, fun D1 nD1 => ?_⟩
      refine lc_vals9 (val := fun e => V.str e.2) hp en lp nD1 (fun t e G k' N me sg ht qk => ?_) fun H1 s1 hD1 => ?_
      · exact ⟨t, _, rfl, .inl (.inl ht), rfl, _, _, rfl, _, _, rfl, rfl, rfl, _, rfl, qk⟩
      · refine ⟨_, D1, ps.map Prod.snd, rfl, rfl, .inl (.inl (.inl (by rw [hD1, List.map_map]; rfl))), sums, _, _, rfl, rfl, Nat.le_trans (show f.length + (wrtS ps).length ≤ 4000000 by omega) (by decide), _, rfl, _, _, rfl, rfl, Nat.le_trans (show (f ++ wrtS ps).length + 0 ≤ 4000000 by rw [length_app]; omega) (by decide), k H1 s1⟩

def sp_seen [Tabl] (CS : Addr) (K : PySem.W.Frag) : Sp := fun vs H Q _ => ∃ (s : Addr) (r z f : Str) (mv : Grid) (fin : List (Option Str)) (dx m' M F P S : Addr) (ps : List (Nat × Str)) (qs : List Nat) (q : Nat) (c : Bool) (L2 : List Addr), vs = [.ref s] ∧
  SeA CS L2 H s r f mv fin dx m' M F P S ps qs q c ∧ GoodR r z f mv fin ∧ ps.length ≤ 8900 ∧ ∀ (t l : Addr) (xs : List V) (H' : Hp), Same H H' → H' l = some (.lst xs) → EntL pcV H' xs ps → H' t = some (.tup [.int (q : Int), .str (takS ps), .str (f ++ wrtS ps ++ (if c then (fin[q]?.join).getD (Str.ofString "") else Str.ofString "")), if c then .int 0 else hldV (fin[q]?.join), .bl c, .int (ps.length : Int), .ref l]) → Q (.ref t) H'
theorem ok_seen (T : Txt K mg base) : FnOk P w K mg base CX0 (2 + 1) T.f_seen T.fd_seen ["session"] (sp_seen T.C_Session K) := by
  refine T.F_seen.ok sc_seen (fun vs H Q E h => ?_) (fun cdv A outer st H vs Q E hr h => ?_)
  · obtain ⟨s, r, z, f, mv, fin, dx, m', M, F, P, S, ps, qs, q, c, L2, rfl, _⟩ := h
    rfl
  · obtain ⟨s, r, z, f, mv, fin, dx, m', M, F, P, S, ps, qs, q, c, L2, rfl, SG, g, lp, k⟩ := h
    refine ⟨_, (pss_cons (ps_setLc (i := 1) (own := [("row", 2)]) (g := gName 2) rfl sc_seen.nd rfl rfl (sw_true rfl rfl rfl (by decide +kernel)) (Own.pi_ownL (E := fun _ _ _ => False) rfl (pv 0) T.h_Session___iter__ T.i_Session___iter__ (yg_Session___iter__ T) T.b_Session___iter__ (hr.mono (by first | decide | exact Nat.le_refl _))) (blkOk_by (N := ["session", "rows", "row"]) (sc := defScope s_seen) (by decide +kernel)) (fun _ _ _ _ _ => pg_name (i := 2) sc_seen.nd rfl (Or.inl rfl)) (fun _ _ _ _ _ => pts_nil) (fun _ _ _ _ _ => (pv 2)))
      (pss_one (ps_ret (pe_tup (pa_cons (pe_prop (pv 0) T.cl_Session T.p_Session_state (ok_Session_state T) (hr.mono (by first | decide | exact Nat.le_refl _)) T.b_Session_state .nil pass0 rfl) (pa_cons (pe_prop (pv 0) T.cl_Session T.p_Session_taken (ok_Session_taken T) (hr.mono (by first | decide | exact Nat.le_refl _)) T.b_Session_taken .nil pass0 rfl) (pa_cons (pe_prop (pv 0) T.cl_Session T.p_Session_written (ok_Session_written T) (hr.mono (by first | decide | exact Nat.le_refl _)) T.b_Session_written .nil pass0 rfl) (pa_cons (pe_prop (pv 0) T.cl_Session T.p_Session_held (ok_Session_held T) (hr.mono (by first | decide | exact Nat.le_refl _)) T.b_Session_held .nil pass0 rfl) (pa_cons (pe_prop (pv 0) T.cl_Session T.p_Session_closed (ok_Session_closed T) (hr.mono (by first | decide | exact Nat.le_refl _)) T.b_Session_closed .nil pass0 rfl) (pa_cons (pe_callB (Own.call_lenOwn (E := fun _ _ _ => False) T.h_Session___len__ T.i_Session___len__ (ok_Session___len__ T) T.b_Session___len__ (hr.mono (by first | decide | exact Nat.le_refl _))) (by rfl) T.z_len PySem.boot_len (pa_cons (pv 0) pa_nil)) (pa_cons (pv 1) pa_nil))))))))))), ?_⟩
    obtain ⟨xs, hP, en⟩ := SG.hp
    have lxs := en.len
    refine ⟨_, rfl, s, dx, _, rfl, SG.ins, fun zz hz => ⟨s, dx, _, P, xs, rfl, SG.ins, sfs_pushed, .inl (.inl hP), fun it nit zit => ⟨it, P, rfl, Nat.le_trans hz zit, upd_same, ?_⟩⟩⟩
    rw [ItX.dropH_upd nit]
    intro R nR
    refine lc_list (K := K) (a := P) (xs := xs) (fun i G => Same H G ∧ G R = some (.lst (xs.take i))) ⟨same_new nR, upd_same⟩ (fun i G _ h => .inl (.inl (h.1 _ _ hP))) ?_ ?_
    · rintro i v G hv ⟨sG, hR⟩
      have li := (List.getElem?_eq_some_iff.mp hv).1
      refine ⟨rfl, _, rfl, _, hR, ?_, (Same.refl H).grown nR sG hR, ?_⟩
      · rw [List.length_take]
        exact Nat.lt_of_le_of_lt (by omega : _ ≤ 9000) (by decide)
      · rw [upd_same, List.take_add_one, hv]
        rfl
    rintro G ⟨s0, hR⟩
    rw [List.take_of_length_le (Nat.le_refl _)] at hR
    have S0 := SG.same s0
    refine ⟨_, rfl, s, dx, _, rfl, S0.ins, s, r, f, mv, fin, dx, m', M, F, P, S, ps, qs, q, c, L2, rfl, S0, ?_⟩
    refine ⟨_, rfl, s, dx, _, rfl, S0.ins, s, r, f, mv, fin, dx, m', M, F, P, S, ps, qs, q, c, L2, rfl, S0, by omega, fun Ka ka => ?_⟩
    have S1 := S0.same ka
    refine ⟨_, rfl, s, dx, _, rfl, S1.ins, s, r, z, f, mv, fin, dx, m', M, F, P, S, ps, qs, q, c, L2, rfl, S1, g, by omega, fun Kb kb => ?_⟩
    have kab := ka.trans kb
    have S2 := S0.same kab
    refine ⟨_, rfl, s, dx, _, rfl, S2.ins, s, r, z, f, mv, fin, dx, m', M, F, P, S, ps, qs, q, c, L2, rfl, S2, g, ?_⟩
    refine ⟨_, rfl, s, dx, _, rfl, S2.ins, s, r, f, mv, fin, dx, m', M, F, P, S, ps, qs, q, c, L2, rfl, S2, ?_⟩
    obtain ⟨ys, hP7, en7⟩ := S2.hp
    have lys := en7.len
    refine ⟨_, rfl, s, dx, _, rfl, S2.ins, s, dx, _, P, ys, rfl, S2.ins, sfs_pushed, hP7, (ys.length : Int), rfl, by omega, by omega, _, rfl, ?_⟩
    rw [lys]
    refine ⟨by show 7 ≤ sizeLine; decide, fun t nt => ?_⟩
    have s2 := s0.trans kab
    have k9 := same_new (o := .tup [.int (q : Int), .str (takS ps), .str (f ++ wrtS ps ++ (if c then (fin[q]?.join).getD (Str.ofString "") else Str.ofString "")), if c then .int 0 else hldV (fin[q]?.join), .bl c, .int (ps.length : Int), .ref R]) nt
    exact k t R xs _ (s2.trans k9) (k9 _ _ (kab _ _ hR)) ((en.same s2).same k9) upd_same

def sp_run [Tabl] (CS : Addr) (K : PySem.W.Frag) : Sp := fun vs H Q _ => ∃ (X A B dt : Addr) (side : Int) (whole : Bool) (d : Deed) (r z : Str) (w o : Wc) (v u : Ws) (L L' : List Addr), vs = [.ref X, .int side, .ref dt, .bl whole] ∧ H X = some (.lst [.ref A, .ref B]) ∧ ((side = 0 ∧ A = w.W ∧ B = o.W) ∨ (side = 1 ∧ A = o.W ∧ B = w.W)) ∧ WldA CS r z L H w v ∧ WldA CS r z L' H o u ∧ w.s ≠ o.s ∧ w.W ∈ L' ∧ w.P ∈ L' ∧ w.S ∈ L' ∧ X ∉ w.W :: w.P :: w.S :: L ∧
  H dt = some (.tup (deedV d)) ∧ (∀ x, d = .push x → ∀ c ∈ w.W :: w.P :: w.S :: L, Deep c 2 H x) ∧ (∀ c ∈ L, H c ≠ none) ∧ v.ps.length ≤ 7000 ∧ u.ps.length ≤ 7000 ∧
  ∀ H' v' ys, Does (cs r) w.mv w.fin v.ps v.qs v.q v.c d ys v'.ps v'.qs v'.q v'.c → ButI w.s [w.W, w.P, w.S] H H' → WldA CS r z L H' w v' → Q (.bl true) H'
theorem ok_run (T : Txt K mg base) : FnOk P w K mg base CX0 (10 + 1) T.f_run T.fd_run ["worlds", "side", "deed", "whole"] (sp_run T.C_Session K) := by
  refine T.F_run.ok sc_run (fun vs H Q E h => ?_) (fun cdv A0 outer st H vs Q E hr h => ?_)
  · obtain ⟨X, A, B, dt, side, whole, d, r, z, w, o, v, u, L, L', rfl, _⟩ := h
    rfl
  · obtain ⟨X, A, B, dt, side, whole, d, r, z, wc, oc, v, u, L, L', rfl, hX, hside, hw, ho, nso, mW, mP, mS, nX, hd, dn, nL, lv, lu, k⟩ := h
    refine ⟨_, (pss_cons (ps_set (i := 4) sc_run.nd rfl (.inl rfl) (pe_ix ix_list (pv 0) (pv 1) (fun _ _ => rfl)))
      (pss_cons (ps_set (i := 5) sc_run.nd rfl (.inl rfl) (pe_call (ok_act T) (hr.mono (by first | decide | exact Nat.le_refl _)) (by rfl) T.g_act T.F_act.kp T.b_act .nil pass0 (pa_cons (pe_ix ix_list (pv 4) pe_int (fun _ _ => rfl)) (pa_cons (pe_ix ix_list (pv 4) pe_int (fun _ _ => rfl)) (pa_cons (pe_ix ix_list (pv 4) pe_int (fun _ _ => rfl)) (pa_cons (pe_call (ok_copy T) (hr.mono (by first | decide | exact Nat.le_refl _)) (by rfl) T.g_copy T.F_copy.kp T.b_copy .nil pass0 (pa_cons (pv 2) pa_nil)) pa_nil))))))
      (pss_cons (ps_set (i := 6) sc_run.nd rfl (.inl rfl) (pe_call (ok_answer T) (hr.mono (by first | decide | exact Nat.le_refl _)) (by rfl) T.g_answer T.F_answer.kp T.b_answer .nil pass0 (pa_cons (pe_ix ix_list (pv 4) pe_int (fun _ _ => rfl)) (pa_cons (pv 2) pa_nil))))
      (pss_cons (ps_asg (pe_ix ix_tup (pv 5) pe_int (fun _ _ => rfl)) (pg_sub (pv 4) pe_int set_list))
      (pss_cons (ps_asg (pe_ix ix_tup (pv 5) pe_int (fun _ _ => rfl)) (pg_sub (pv 4) pe_int set_list))
      (pss_cons (ps_if (pt_not (pt_val (pe_call (ok_same T) (hr.mono (by first | decide | exact Nat.le_refl _)) (by rfl) T.g_same T.F_same.kp T.b_same .nil pass0 (pa_cons (pv 6) (pa_cons (pe_lst (pa_cons (pe_ix ix_tup (pv 5) pe_int (fun _ _ => rfl)) pa_nil)) pa_nil))))) (pss_one (ps_ret pe_bl)) pss_nil)
      (pss_cons (ps_for PassesOwn.never rfl (pi_list (pv 0)) (pg_name (i := 7) sc_run.nd rfl (.inl rfl)) (pss_one (ps_if (PW.pt (pw_and (pt_val (pv 3)) (pw_and1 (pt_not (pt_val (pe_call (ok_same T) (hr.mono (by first | decide | exact Nat.le_refl _)) (by rfl) T.g_same T.F_same.kp T.b_same .nil pass0 (pa_cons (pe_call (ok_seen T) (hr.mono (by first | decide | exact Nat.le_refl _)) (by rfl) T.g_seen T.F_seen.kp T.b_seen .nil pass0 (pa_cons (pe_ix ix_list (pv 7) pe_int (fun _ _ => rfl)) pa_nil)) (pa_cons (pe_call (ok_due T) (hr.mono (by first | decide | exact Nat.le_refl _)) (by rfl) T.g_due T.F_due.kp T.b_due .nil pass0 (pa_cons (pe_ix ix_list (pv 7) pe_int (fun _ _ => rfl)) (pa_cons (pe_ix ix_list (pv 7) pe_int (fun _ _ => rfl)) (pa_cons (pe_ix ix_list (pv 7) pe_int (fun _ _ => rfl)) pa_nil)))) pa_nil)))))))) (pss_one (ps_ret pe_bl)) pss_nil)))
      (pss_one (ps_ret pe_bl))))))))), ?_⟩
    obtain ⟨c0, mc0⟩ : ∃ c0, c0 ∈ wc.W :: wc.P :: wc.S :: L := ⟨_, List.mem_cons_self ..⟩
    have at1 : ∃ W, atI [V.ref A, V.ref B] side = some (.ref W) ∧ W = wc.W := by
      rcases hside with ⟨rfl, h, _⟩ | ⟨rfl, _, h⟩
      · exact ⟨A, atI_nat (j := 0) rfl, h⟩
      · exact ⟨B, atI_nat (j := 1) rfl, h⟩
    obtain ⟨W, ea, rfl⟩ := at1
    refine ⟨_, rfl, _, rfl, X, _, _, _, rfl, rfl, .inl (.inl hX), ea, ?_⟩
    -- the copy
    have dd : ∀ c ∈ wc.W :: wc.P :: wc.S :: L, (∀ zs, H c ≠ some (.tup zs)) → Deep c 3 H (.ref dt) := fun c mc nt => by
      refine deep_tup (fun e => nt _ (by rw [← e]; exact hd)) hd (by cases d <;> simp [deedV]) fun x mx => ?_
      cases d with
      | push v =>
        simp only [deedV, List.mem_cons, List.not_mem_nil, or_false] at mx
        rcases mx with rfl | rfl
        · exact deep_text (by decide)
        · exact dn _ rfl c mc
      | close =>
        rw [List.mem_singleton.mp mx]
        exact deep_text (by decide)
      | back =>
        rw [List.mem_singleton.mp mx]
        exact deep_text (by decide)
    have ntW : ∀ zs, H wc.W ≠ some (.tup zs) := fun zs e => by rw [hw.hW] at e; cases e
    have shv : ∀ x, d = .push x → Shal H x := fun x e => (dn x e wc.W (List.mem_cons_self ..)).shal
    refine ⟨_, rfl, wc.W, _, _, _, rfl, rfl, .inl (.inl hw.hW), atI_nat (j := 0) rfl, _, rfl, wc.W, _, _, _, rfl, rfl, .inl (.inl hw.hW), atI_nat (j := 2) rfl, _, rfl, wc.W, _, _, _, rfl, rfl, .inl (.inl hw.hW), atI_nat (j := 3) rfl, _, rfl, ?_⟩
    refine ⟨.ref dt, rfl, ⟨wc.W, (dd wc.W (List.mem_cons_self ..) ntW).le (by decide)⟩, fun u' H1 s1 sm du => ?_⟩
    have hd1 := s1 _ _ hd
    obtain ⟨dt', d', rfl, hdt', ds⟩ := deed_copy (n := 8) sm hd1
    have hw1 := hw.same s1
    have sv' : ∀ x, d' = .push x → Shal H1 x := fun x e => by
      subst e
      have h := du wc.W (by rw [hw.hW]; exact fun z => by cases z) ((dd wc.W (List.mem_cons_self ..) ntW).le (by decide))
      exact ((deep_ref h (.inr hdt')).2 8 rfl x (by simp [deedV])).shal
    refine ⟨wc.p, v.pa, dt', d', r, z, wc.f, wc.mv, wc.fin, wc.M, wc.F, v.zs, v.ts, v.ps, v.qs, v.q, v.c, _, rfl, hw1.rp, hw1.g, hdt', sv', hw1.hpa, hw1.en, hw1.pt, by omega, fun ys1 ps1 qs1 q1 c1 ts1 do1 pt1 t1 tt pa1 zs1 H2 s2 ht1 opa hpa1 en1 htt => ?_⟩
    have hw2 := hw1.same s2
    have s12 := s1.trans s2
    have hd2 := s2 _ _ hd1
    refine ⟨_, rfl, wc.W, _, _, _, rfl, rfl, .inl (.inl hw2.hW), atI_nat (j := 1) rfl, _, rfl, ?_⟩
    refine ⟨wc.s, dt, d, r, z, wc.f, wc.mv, wc.fin, wc.d, wc.m, wc.Ma, wc.Fa, wc.P, wc.S, v.ps, v.qs, v.q, v.c, _, rfl, hd2, hw2.se, hw2.g, (fun x e => (shv x e).same s12), by omega, fun ys2 ps2 qs2 q2 c2 do2 l t2 H3 bI se3 hl ht2 => ?_⟩
    have ins2 := hw2.se.ins
    have WP : wc.W ≠ wc.P := fun e => hw.se.nP (by rw [← e]; exact List.mem_cons_self ..)
    have WS : wc.W ≠ wc.S := fun e => hw.se.nS (by rw [← e]; exact List.mem_cons_self ..)
    have WPS : wc.W ∉ [wc.P, wc.S] := by simp [WP, WS]
    have sub3 : ∀ b ∈ [wc.P, wc.S], b ∈ wc.W :: wc.P :: wc.S :: L := fun b m => by
      simp only [List.mem_cons, List.not_mem_nil, or_false] at m ⊢
      rcases m with rfl | rfl <;> simp
    have npa1 : pa1 ∉ wc.W :: wc.P :: wc.S :: L := by
      rcases opa with rfl | n1
      · exact hw.npa
      · have n0 := s1.free n1
        intro m
        simp only [List.mem_cons] at m
        rcases m with e | e | e | m
        · rw [e, hw.hW] at n0; cases n0
        · obtain ⟨xs, h, _⟩ := hw.se.hp; rw [e, h] at n0; cases n0
        · rw [e, hw.se.hs] at n0; cases n0
        · exact nL _ m n0
    have hW3 := bI.row ins2 hw2.hW WPS
    have htt3 := bI.tup ins2 htt
    have ht13 := bI.tup ins2 ht1
    have hpa3 := bI.row ins2 hpa1 (fun m => npa1 (sub3 _ m))
    have en3 := en1.buti ins2 bI
    have rp3 := hw2.rp.buti ins2 bI sub3
    have subL : ∀ b ∈ [wc.P, wc.S], b ∈ L' := fun b m => by
      simp only [List.mem_cons, List.not_mem_nil, or_false] at m
      rcases m with rfl | rfl
      · exact mP
      · exact mS
    have ho3 := (ho.same s12).buti ins2 (Ne.symm nso) bI subL
    have hX3 := bI.row ins2 (s12 _ _ hX) (fun m => nX (sub3 _ m))
    have bI3 : ButI wc.s [wc.W, wc.P, wc.S] H H3 := (ButI.same s12).trans (bI.more fun b m => List.mem_cons_of_mem _ m)
    -- world[2] = made[1]
    refine ⟨_, rfl, _, _, _, _, rfl, rfl, .inl (.inl htt3), rfl, _, rfl, wc.W, _, 2, 2, rfl, rfl, hW3, rfl, ?_⟩
    have B4 : But wc.W H3 (upd H3 wc.W (.lst ([V.ref wc.p, .ref wc.s, .ref v.pa, .bl v.c].set 2 (.ref pa1)))) := But.put hW3
    have L4 : ButL [wc.W, wc.P, wc.S] H3 (upd H3 wc.W (.lst ([V.ref wc.p, .ref wc.s, .ref v.pa, .bl v.c].set 2 (.ref pa1)))) := ButL.put (by simp) hW3
    have hW4 : (upd H3 wc.W (.lst ([V.ref wc.p, .ref wc.s, .ref v.pa, .bl v.c].set 2 (.ref pa1)))) wc.W = some (.lst [.ref wc.p, .ref wc.s, .ref pa1, .bl v.c]) := upd_same
    generalize upd H3 wc.W (.lst ([V.ref wc.p, .ref wc.s, .ref v.pa, .bl v.c].set 2 (.ref pa1))) = H4 at B4 L4 hW4 ⊢
    have htt4 := L4.tup htt3
    refine ⟨_, rfl, _, _, _, _, rfl, rfl, .inl (.inl htt4), rfl, _, rfl, wc.W, _, 3, 3, rfl, rfl, hW4, rfl, ?_⟩
    have B5 : But wc.W H4 (upd H4 wc.W (.lst ([V.ref wc.p, .ref wc.s, .ref pa1, .bl v.c].set 3 (.bl c1)))) := But.put hW4
    have L5 : ButL [wc.W, wc.P, wc.S] H4 (upd H4 wc.W (.lst ([V.ref wc.p, .ref wc.s, .ref pa1, .bl v.c].set 3 (.bl c1)))) := ButL.put (by simp) hW4
    have hW5 : (upd H4 wc.W (.lst ([V.ref wc.p, .ref wc.s, .ref pa1, .bl v.c].set 3 (.bl c1)))) wc.W = some (.lst [.ref wc.p, .ref wc.s, .ref pa1, .bl c1]) := upd_same
    generalize upd H4 wc.W (.lst ([V.ref wc.p, .ref wc.s, .ref pa1, .bl v.c].set 3 (.bl c1))) = H5 at B5 L5 hW5 ⊢
    have B35 := B4.trans B5
    have L35 := L4.trans L5
    have paW : pa1 ≠ wc.W := fun e => npa1 (by rw [e]; exact List.mem_cons_self ..)
    have mWW : wc.W ∈ wc.W :: wc.P :: wc.S :: L := List.mem_cons_self ..
    have ntW3 : ∀ zs, H3 wc.W ≠ some (.tup zs) := fun zs e => by rw [hW3] at e; cases e
    have B25 : ButI wc.s [wc.W, wc.P, wc.S] H2 H5 := (bI.more fun b m => List.mem_cons_of_mem _ m).trans (ButI.butl L35)
    have bI5 : ButI wc.s [wc.W, wc.P, wc.S] H H5 := (ButI.same s12).trans B25
    have sub4 : ∀ b ∈ [wc.W, wc.P, wc.S], b ∈ wc.W :: wc.P :: wc.S :: L := fun b m => by
      simp only [List.mem_cons, List.not_mem_nil, or_false] at m ⊢
      rcases m with rfl | rfl | rfl <;> simp
    -- the deed and its copy
    have ds7 : DeedS 7 H5 d' d := by
      cases d with
      | push x =>
        cases d' with
        | push x' =>
          have dx : ∀ c ∈ wc.W :: wc.P :: wc.S :: L, Deep c 7 H2 x := fun c mc => ((dn x rfl c mc).same s12).le (by decide)
          have dx' : ∀ c ∈ [wc.W, wc.P, wc.S], Deep c 8 H2 x' := fun c mc => by
            have nt : ∀ zs, H c ≠ some (.tup zs) := fun zs e => by
              simp only [List.mem_cons, List.not_mem_nil, or_false] at mc
              rcases mc with rfl | rfl | rfl
              · rw [hw.hW] at e; cases e
              · obtain ⟨xs, h, _⟩ := hw.se.hp; rw [h] at e; cases e
              · rw [hw.se.hs] at e; cases e
            have pr : H c ≠ none := fun e => by
              simp only [List.mem_cons, List.not_mem_nil, or_false] at mc
              rcases mc with rfl | rfl | rfl
              · rw [hw.hW] at e; cases e
              · obtain ⟨xs, h, _⟩ := hw.se.hp; rw [h] at e; cases e
              · rw [hw.se.hs] at e; cases e
            have h := du c pr ((dd c (sub4 c mc) nt).le (by decide))
            exact ((deep_ref h (.inr hdt')).2 8 rfl x' (by simp [deedV])).same s2
          have s7 : SameD 7 H2 x' x := SameD.cap (SameD.keep s2 (show SameD 8 H1 x' x from ds)) (dx wc.W mWW)
          exact s7.buti ins2 B25 (fun c mc => DeepCap s7 (dx' c mc)) (fun c mc => dx c (sub4 c mc))
        | close => exact ds.elim
        | back => exact ds.elim
      | close =>
        cases d' with
        | push _ => exact ds.elim
        | close => trivial
        | back => exact ds.elim
      | back =>
        cases d' with
        | push _ => exact ds.elim
        | close => exact ds.elim
        | back => trivial
    have hv5 : ∀ x, d = .push x → SameD 7 H5 x x := fun x e => ((Deep.buti ins2 B25 (((dn x e wc.W mWW).same s12)) fun c mc => (dn x e c (sub4 c mc)).same s12).le (by decide : 2 ≤ 7)).samed
    obtain ⟨⟨rfl, rfl, rfl, rfl⟩, ly, sy⟩ := do1.copy ds7 do2 hv5
    have ld := do2.len
    have htt5 := L5.tup htt4
    have ht15 := L35.tup ht13
    have ht25 := L35.tup ht2
    have ls : l ≠ wc.W := fun e => by rw [e, hW3] at hl; cases hl
    have hl5 := B35 _ _ ls hl
    have w5 : WldA T.C_Session r z L H5 wc ⟨pa1, zs1, ts1, ps2, qs2, q2, c2⟩ := ⟨hW5, hw.nW, rp3.but B35 mWW ntW3, se3.but B35 (List.mem_cons_self ..) hW3, hw.g, B35 _ _ paW hpa3, npa1, Paired.mapP en3 fun _ _ ⟨t, e, q⟩ => ⟨t, e, L35.tup q⟩, pt1⟩
    have o5 := ho3.but B35 mW hW3
    have hX5 := B35 _ _ (fun e => nX (by rw [e]; exact mWW)) hX3
    refine ⟨_, rfl, _, rfl, _, _, _, _, rfl, rfl, .inl (.inl htt5), rfl, by show 1 ≤ sizeLine; decide, fun ll nll => ?_⟩
    have k6 := same_new (o := .lst [.ref t1]) nll
    have hll : (upd H5 ll (.lst [.ref t1])) ll = some (.lst [.ref t1]) := upd_same
    generalize upd H5 ll (.lst [.ref t1]) = H6 at k6 hll ⊢
    have hl6 := k6 _ _ hl5
    have ht16 := k6 _ _ ht15
    have ht26 := k6 _ _ ht25
    refine ⟨_, _, rfl, .inr ⟨l, ll, _, _, rfl, rfl, .inr ⟨hl6, hll⟩, rfl, by show 1 ≤ 4000000; decide, fun i x y hx hy => ?_⟩, true, rfl, iteN rfl ?_⟩
    · match i, hx, hy with
      | 0, rfl, rfl => exact .inr ⟨t2, t1, _, _, rfl, rfl, .inl ⟨ht26, ht16⟩, ly, by omega, fun i x y hx hy => SameD.keep k6 (sy i x y hx hy)⟩
    have w6 := w5.same k6
    have o6 := o5.same k6
    have hX6 := k6 _ _ hX5
    have bI6 := bI5.trans (ButI.same k6)
    clear w5 o5 hX5 bI5 k6 hll hl6 ht16 ht26 hl5 ht15 ht25 htt5 B35 L35 B5 L5 B4 L4 hW3 hW4 hW5 ds7 hv5 sy htt4 htt3 ht13 hpa3 en3 rp3 ho3 hX3 bI3 bI se3 hl ht2 B25
    refine ⟨_, rfl, X, rfl, ⟨_, .inl (.inl hX6)⟩, ?_⟩
    refine for_list (K := K) (a := X) (xs := [.ref A, .ref B]) (fun i σ G => (∃ y7, σ = [some (.ref X), some (.int side), some (.ref dt), some (.bl whole), some (.ref wc.W), some (.ref tt), some (.ref l), y7]) ∧ Same H6 G) ⟨⟨_, rfl⟩, .refl H6⟩ (fun i σ G _ h => .inl (.inl (h.2 _ _ hX6))) ?_ ?_
    · rintro i x σ G hv ⟨⟨y7, rfl⟩, sG⟩
      obtain ⟨w, v', LL, rfl, wA, lv'⟩ : ∃ (w : Wc) (v' : Ws) (LL : List Addr), x = .ref w.W ∧ WldA T.C_Session r z LL G w v' ∧ v'.ps.length ≤ 8000 := by
        have own : ∃ (w : Wc) (v' : Ws) (LL : List Addr), V.ref wc.W = .ref w.W ∧ WldA T.C_Session r z LL G w v' ∧ v'.ps.length ≤ 8000 := ⟨wc, _, L, rfl, w6.same sG, by show ps2.length ≤ 8000; omega⟩
        have oth : ∃ (w : Wc) (v' : Ws) (LL : List Addr), V.ref oc.W = .ref w.W ∧ WldA T.C_Session r z LL G w v' ∧ v'.ps.length ≤ 8000 := ⟨oc, u, L', rfl, o6.same sG, by omega⟩
        have mx := List.mem_of_getElem? hv
        simp only [List.mem_cons, List.not_mem_nil, or_false] at mx
        rcases hside with ⟨_, rfl, rfl⟩ | ⟨_, rfl, rfl⟩ <;> rcases mx with rfl | rfl
        · exact own
        · exact oth
        · exact oth
        · exact own
      refine ⟨_, rfl, _, rfl, ?_⟩
      cases whole with
      | false => exact iteN rfl (iteN rfl ⟨⟨_, rfl⟩, sG⟩)
      | true =>
      refine iteC rfl ?_
      refine ⟨_, rfl, w.W, _, _, _, rfl, rfl, .inl (.inl wA.hW), atI_nat (j := 1) rfl, w.s, r, z, w.f, w.mv, w.fin, w.d, w.m, w.Ma, w.Fa, w.P, w.S, v'.ps, v'.qs, v'.q, v'.c, _, rfl, wA.se, wA.g, by omega, fun ta la xa G1 sa hla ena hta => ?_⟩
      have wB := wA.same sa
      refine ⟨_, rfl, w.W, _, _, _, rfl, rfl, .inl (.inl wB.hW), atI_nat (j := 0) rfl, _, rfl, w.W, _, _, _, rfl, rfl, .inl (.inl wB.hW), atI_nat (j := 2) rfl, _, rfl, w.W, _, _, _, rfl, rfl, .inl (.inl wB.hW), atI_nat (j := 3) rfl, w.p, v'.pa, r, z, w.f, w.mv, w.fin, w.M, w.F, v'.zs, v'.ts, v'.ps, v'.qs, v'.q, v'.c, _, rfl, wB.rp, wB.g, wB.hpa, wB.en, wB.pt, wB.se.cl, by omega, fun tb lb xb G2 sb hlb enb htb => ?_⟩
      have hta' := sb _ _ hta
      have hla' := sb _ _ hla
      have plain : ∀ e ∈ v'.ps, ∀ x ∈ pcV e, plainV x = true := fun e _ x mx => by
        simp only [pcV, List.mem_cons, List.not_mem_nil, or_false] at mx
        rcases mx with rfl | rfl <;> rfl
      have hpl : plainV (if v'.c then V.int 0 else hldV (w.fin[v'.q]?.join)) = true := by
        cases v'.c with
        | true => rfl
        | false => cases w.fin[v'.q]?.join <;> rfl
      refine ⟨_, _, rfl, .inr ⟨ta, tb, _, _, rfl, rfl, .inl ⟨hta', htb⟩, rfl, by show 7 ≤ 4000000; decide, fun i x y hx hy => ?_⟩, _, rfl, iteN rfl ⟨⟨_, rfl⟩, (sG.trans sa).trans sb⟩⟩
      match i, hx, hy with
      | 0, rfl, rfl => exact plain_samed rfl
      | 1, rfl, rfl => exact plain_samed rfl
      | 2, rfl, rfl => exact plain_samed rfl
      | 3, rfl, rfl => exact plain_samed hpl
      | 4, rfl, rfl => exact plain_samed rfl
      | 5, rfl, rfl => exact plain_samed rfl
      | 6, rfl, rfl => exact ents_alike (n := 6) hla' hlb (ena.same sb) enb plain (fun e _ => by show 2 ≤ 1000; decide) (by omega)
    · rintro σ G ⟨⟨y7, rfl⟩, sG⟩
      exact k G ⟨pa1, zs1, ts1, ps2, qs2, q2, c2⟩ ys2 do2 (bI6.trans (.same sG)) (w6.same sG)

def sp_store (K : PySem.W.Frag) : Sp := fun vs H Q _ => ∃ (a : Addr) (ns : List Int), vs = [.ref a] ∧ SqL K H a (ns.map V.int) ∧ ns.length ≤ 63 ∧
  ∀ (p ca : Addr) (H' : Hp), Same H H' → H p = none → Sto H' p ca → Q (.ref p) H'
theorem ok_store (T : Txt K mg base) : FnOk P w K mg base CX0 (0 + 1) T.f_store T.fd_store ["script"] (sp_store K) := by
  refine T.F_store.ok sc_store (fun vs H Q E h => ?_) (fun cdv A outer s H vs Q E hr h => ?_)
  · obtain ⟨a, ns, rfl, _⟩ := h
    rfl
  · obtain ⟨a, ns, rfl, hS, hl, q⟩ := h
    refine ⟨_, (pss_cons (ps_set (i := 1) sc_store.nd rfl (.inl rfl) pe_int)
      (pss_cons (ps_for PassesOwn.never rfl (pi_list (pv 0)) (pg_name (i := 2) sc_store.nd rfl (.inl rfl)) (pss_one (ps_set (i := 1) sc_store.nd rfl (.inl rfl) (pe_op op_mod (pe_callTy call_int1 (by rfl) T.z_int (by decide +kernel) (pa_cons (pe_op op_add (pe_op op_add (pe_op op_mul (pv 1) pe_int) (pe_op op_mod (pe_callTy call_int1 (by rfl) T.z_int (by decide +kernel) (pa_cons (pv 2) pa_nil)) pe_int)) pe_int) pa_nil)) pe_int))))
      (pss_one (ps_ret (pe_lst (pa_cons (pe_callTy call_list_of (by rfl) T.z_list (by decide +kernel) (pa_cons (pv 0) pa_nil)) (pa_cons pe_int (pa_cons pe_int (pa_cons pe_int (pa_cons (pv 1) pa_nil)))))))))), ?_⟩
    -- seed = 17, the loop
    refine ⟨.ref a, rfl, a, rfl, ⟨_, hS⟩, for_list (K := K) (a := a) (xs := ns.map V.int) (fun i σ H' => ∃ (z : Int) (y : Option V), σ = [some (.ref a), some (.int z), y] ∧ H' = H)
      ⟨17, none, rfl, rfl⟩ (fun i σ H' _ ⟨_, _, _, e⟩ => by rw [e]; exact hS) ?_ ?_⟩
    · rintro i y σ H' hi ⟨z, y0, rfl, rfl⟩
      obtain ⟨n, hn, rfl⟩ : ∃ n, ns[i]? = some n ∧ y = V.int n := by
        rw [List.getElem?_map] at hi
        cases e : ns[i]? with
        | none =>
          rw [e] at hi
          cases hi
        | some n =>
          rw [e] at hi
          exact ⟨n, rfl, (Option.some.inj hi).symm⟩
      exact ⟨_, rfl, _, _, rfl, rfl, .inr ⟨by decide, by decide⟩, _, rfl, .inl ⟨_, rfl, _, _, rfl, rfl, (by show (0 : Int) < 1000003; decide), _, _, rfl, rfl, _, _, rfl, rfl, .inl ⟨_, rfl, _, _, rfl, rfl, (by show (0 : Int) < 2147483647; decide), _, _, rfl, rfl⟩⟩⟩
    · rintro σ H' ⟨z, y0, rfl, rfl⟩
      refine ⟨.ref a, rfl, a, _, rfl, .inl hS, fun c nc => ⟨_, rfl, by show 5 ≤ sizeLine; decide, fun p np => ?_⟩⟩
      have s1 : Same H' (upd H' c (.lst (ns.map V.int))) := same_new nc
      have s2 : Same (upd H' c (.lst (ns.map V.int))) (upd (upd H' c (.lst (ns.map V.int))) p (.lst [.ref c, .int 0, .int 0, .int 0, .int z])) := same_new np
      have ncp : c ≠ p := fun e => by
        rw [← e, upd_same] at np
        cases np
      refine q p c _ (s1.trans s2) (s1.free np) ⟨ns, 0, 0, 0, z, upd_same, ?_, Int.le_refl 0, ncp⟩
      rw [upd_ne ncp, upd_same]

/-- the numbers below n in some order -/
def natV (ps : List Nat) : List V := ps.map fun i => V.int ((i : Nat) : Int)
theorem rg_nat (n : Nat) : rgV 0 (n : Int) = natV (List.range n) := by
  unfold rgV natV
  rw [Int.sub_zero, Int.toNat_natCast]
  exact List.map_congr_left fun i _ => by rw [Int.zero_add]
def sp_order (_ : PySem.W.Frag) : Sp := fun vs H Q _ => ∃ (a ca : Addr) (n : Nat), vs = [.ref a, .int (n : Int)] ∧ Sto H a ca ∧ n ≤ 1000 ∧
  ∀ (ps : List Nat) (p : Addr) (H' : Hp), ps.Perm (List.range n) → But a H H' → Sto H' a ca → H p = none → p ≠ a → p ≠ ca → H' p = some (.lst (natV ps)) → Q (.ref p) H'
theorem ok_order (T : Txt K mg base) : FnOk P w K mg base CX0 (2 + 1) T.f_order T.fd_order ["store", "size"] (sp_order K) := by
  refine T.F_order.ok sc_order (fun vs H Q E h => ?_) (fun cdv A outer s H vs Q E hr h => ?_)
  · obtain ⟨a, ca, n, rfl, _⟩ := h
    rfl
  · obtain ⟨a, ca, n, rfl, S, hn, q⟩ := h
    refine ⟨_, (pss_cons (ps_if (pt_cmpR op_eq (pe_call (ok_take T) (hr.mono (by first | decide | exact Nat.le_refl _)) (by rfl) T.g_take T.F_take.kp T.b_take .nil pass0 (pa_cons (pv 0) (pa_cons pe_int pa_nil))) pe_int (nomark _)) (pss_one (ps_ret (pe_listRg rfl (by rfl) T.z_list (prg_1 (by rfl) T.z_range (pv 1))))) pss_nil)
      (pss_cons (ps_set (i := 2) sc_order.nd rfl (.inl rfl) (pe_listRg rfl (by rfl) T.z_list (prg_1 (by rfl) T.z_range (pv 1))))
      (pss_cons (ps_set (i := 3) sc_order.nd rfl (.inl rfl) (pe_lst pa_nil))
      (pss_cons (ps_for PassesOwn.never rfl (pi_range1 (by rfl) T.z_range (pa_cons (pv 1) pa_nil)) (pg_name (i := 4) sc_order.nd rfl (.inl rfl)) (pss_one (ps_expr (pe_bm PySem.F.plainAttrs_list PySem.F.slot_list_append PySem.F.type_list_append mt_append (pv 3) (pa_cons (pe_bm PySem.F.plainAttrs_list PySem.F.slot_list_pop PySem.F.type_list_pop mt_popAt (pv 2) (pa_cons (pe_call (ok_take T) (hr.mono (by first | decide | exact Nat.le_refl _)) (by rfl) T.g_take T.F_take.kp T.b_take .nil pass0 (pa_cons (pv 0) (pa_cons (pe_callB call_len_seq (by rfl) T.z_len PySem.boot_len (pa_cons (pv 2) pa_nil)) pa_nil))) pa_nil)) pa_nil)))))
      (pss_one (ps_ret (pv 3))))))), ?_⟩
    have rg : RgOk 0 (n : Int) := RgOk.of_le (by omega) (by omega) (by omega) (by omega)
    refine ⟨_, rfl, a, ca, 3, rfl, S, by decide, fun d H1 _ _ B1 S1 => ⟨rfl, _, rfl, ite2 (fun _ => ?_) (fun _ => ?_)⟩⟩
    · refine ⟨_, rfl, (n : Int), rfl, rg, fun p np => ?_⟩
      have k := same_new (o := .lst (rgV 0 (n : Int))) np
      have npa := S1.ne np
      exact q (List.range n) p _ (.refl _) (B1.trans (But.same k)) (S1.new np) (B1.free np npa.1) npa.1 npa.2 (by rw [upd_same, rg_nat])
    refine ⟨_, rfl, (n : Int), rfl, rg, fun l nl => ?_⟩
    have k1 := same_new (o := .lst (rgV 0 (n : Int))) nl
    have nla := S1.ne nl
    have hl : (upd H1 l (.lst (rgV 0 (n : Int)))) l = some (.lst (natV (List.range n))) := by rw [upd_same, rg_nat]
    have S2 := S1.new (o := .lst (rgV 0 (n : Int))) nl
    have B2 := B1.trans (But.same k1)
    generalize upd H1 l (.lst (rgV 0 (n : Int))) = H2 at k1 hl S2 B2 ⊢
    refine ⟨by show 0 ≤ sizeLine; decide, fun p np => ?_⟩
    have k2 := same_new (o := .lst []) np
    have npa := S2.ne np
    have pl : p ≠ l := fun e => by rw [e, hl] at np; cases np
    have S3 := S2.new (o := .lst []) np
    have B3 := B2.trans (But.same k2)
    have hp : (upd H2 p (.lst [])) p = some (.lst []) := upd_same
    have hl3 := k2 _ _ hl
    have np0 : H p = none := B2.free np npa.1
    have nl0 : H l = none := B1.free nl nla.1
    generalize upd H2 p (.lst []) = H3 at k2 S3 B3 hp hl3 ⊢
    refine ⟨_, rfl, (n : Int), rfl, by omega, by omega, ?_⟩
    refine for_range (lo := 0) (n := (n : Int).toNat) (fun i σ H' => ∃ (L R : List Nat) (y : Option V), σ = [some (.ref a), some (.int (n : Int)), some (.ref l), some (.ref p), y] ∧ (R ++ L).Perm (List.range n) ∧ R.length = i ∧ H' l = some (.lst (natV L)) ∧ H' p = some (.lst (natV R)) ∧ But a H H' ∧ Sto H' a ca)
      ⟨List.range n, [], none, rfl, .refl _, rfl, hl3, hp, B3, S3⟩ ?_ ?_
    · rintro i σ H4 hi ⟨L, R, y, rfl, perm, lr, hl4, hp4, B4, S4⟩
      have hi' : i < n := hi
      have lL : L.length = n - i := by
        have := perm.length_eq
        rw [List.length_append, List.length_range, lr] at this
        omega
      have len4 : (natV L).length = L.length := List.length_map ..
      have len5 : (natV R).length = R.length := List.length_map ..
      refine ⟨_, rfl, .inl ⟨rfl, _, .inl (.inl hp4)⟩, _, rfl, .inl ⟨rfl, _, .inl (.inl hl4)⟩, _, rfl, _, rfl, _, _, rfl, .inl (.inl (.inl hl4)), a, ca, _, rfl, S4, by rw [len4]; omega, fun d H5 d0 d1 B5 S5 => ?_⟩
      have hl5 := B5 _ _ nla.1 hl4
      have hp5 := B5 _ _ npa.1 hp4
      obtain ⟨j, rfl⟩ := Int.eq_ofNat_of_zero_le d0
      have hj : j < L.length := by
        rw [len4] at d1
        omega
      have ej : (natV L)[j]? = some (.int ((L[j] : Nat) : Int)) := by
        unfold natV
        rw [List.getElem?_map, List.getElem?_eq_getElem hj]
        rfl
      refine ⟨l, _, _, j, _, rfl, rfl, hl5, by omega, by omega, ?_, ej, ?_⟩
      · rw [PySem.seqIndex_of (by omega) (by rw [len4]; omega), Int.toNat_natCast]
      have er : (natV L).eraseIdx j = natV (L.eraseIdx j) := erase_map ..
      have hp6 : (upd H5 l (.lst ((natV L).eraseIdx j))) p = some (.lst (natV R)) := by
        rw [upd_ne pl]
        exact hp5
      refine ⟨p, _, _, rfl, rfl, hp6, by rw [len5]; exact Nat.lt_of_lt_of_le (by omega : R.length < 4000000) (by decide), L.eraseIdx j, R ++ [L[j]], _, rfl, ?_, by rw [List.length_append, lr]; rfl, ?_, ?_, ?_, ?_⟩
      · rw [List.append_assoc]
        exact (List.Perm.append_left R (erase_perm L j hj)).trans perm
      · rw [upd_ne (Ne.symm pl), upd_same, er]
      · rw [upd_same]
        unfold natV
        rw [List.map_append]
        rfl
      · exact B2.grown np (B1.grown nl (B4.trans B5) hl5) hp6
      · exact (S5.put nla).put npa
    · rintro σ H4 ⟨L, R, y, rfl, perm, lr, hl4, hp4, B4, S4⟩
      have lr' : R.length = n := lr
      have l0 : L = [] := by
        have := perm.length_eq
        rw [List.length_append, List.length_range, lr'] at this
        exact List.length_eq_zero_iff.mp (by omega)
      rw [l0, List.append_nil] at perm
      exact ⟨_, rfl, q R p H4 perm B4 S4 np0 npa.1 npa.2 hp4⟩

/-- the items in some order: a new list -/
def sp_turned (_ : PySem.W.Frag) : Sp := fun vs H Q _ => ∃ (a ca r : Addr) (xs : List V), vs = [.ref a, .ref r] ∧ Sto H a ca ∧ r ≠ a ∧ H r = some (.lst xs) ∧ xs.length ≤ 1000 ∧
  ∀ (ys : List V) (p : Addr) (H' : Hp), ys.Perm xs → But a H H' → Sto H' a ca → H p = none → p ≠ a → p ≠ ca → H' p = some (.lst ys) → Q (.ref p) H'
theorem ok_turned (T : Txt K mg base) : FnOk P w K mg base CX0 (3 + 1) T.f_turned T.fd_turned ["store", "row"] (sp_turned K) := by
  refine T.F_turned.ok sc_turned (fun vs H Q E h => ?_) (fun cdv A outer s H vs Q E hr h => ?_)
  · obtain ⟨a, ca, r, xs, rfl, _⟩ := h
    rfl
  · obtain ⟨a, ca, r, xs, rfl, S, ra, hr0, len, q⟩ := h
    refine ⟨_, (pss_one (ps_ret (pe_lc (own := [("k", 2)]) (g := gName 2) rfl sc_turned.nd (pi_list (pe_call (ok_order T) (hr.mono (by first | decide | exact Nat.le_refl _)) (by rfl) T.g_order T.F_order.kp T.b_order .nil pass0 (pa_cons (pv 0) (pa_cons (pe_callB call_len_seq (by rfl) T.z_len PySem.boot_len (pa_cons (pv 1) pa_nil)) pa_nil)))) (blkOk_by (N := ["store", "row", "k"]) (sc := defScope s_turned) (by decide +kernel)) (fun _ _ _ _ _ => pg_name (i := 2) sc_turned.nd rfl (Or.inl rfl)) (fun _ _ _ _ _ => pts_nil) (fun _ _ _ _ _ => (pe_ix (ix_listK K rfl) (pv 1) (pv 2) (fun _ _ => rfl)))))), ?_⟩
    refine ⟨_, rfl, _, rfl, _, _, rfl, .inl (.inl (.inl hr0)), a, ca, xs.length, rfl, S, len, fun ps l H1 perm B1 S1 nl la lca hl => ?_⟩
    refine ⟨l, rfl, ⟨_, .inl (.inl hl)⟩, fun D nD => ?_⟩
    have hr1 := B1 _ _ ra hr0
    have nDa := S1.ne nD
    have rD : D ≠ r := fun e => by rw [e, hr1] at nD; cases nD
    have lD : D ≠ l := fun e => by rw [e, hl] at nD; cases nD
    refine lc_list (K := K) (a := l) (xs := natV ps) (fun i H' => But a H H' ∧ Sto H' a ca ∧ H' l = some (.lst (natV ps)) ∧ H' r = some (.lst xs) ∧ H' D = some (.lst ((ps.take i).filterMap fun j => xs[j]?)))
      ⟨B1.trans (But.new nD), S1.new nD, by rw [upd_ne (Ne.symm lD)]; exact hl, by rw [upd_ne (Ne.symm rD)]; exact hr1, upd_same⟩ (fun i H' _ h => .inl (.inl h.2.2.1)) ?_ ?_
    · rintro i v H2 hv ⟨B2, S2, hl2, hr2, hD2⟩
      unfold natV at hv
      rw [List.getElem?_map] at hv
      cases ej : ps[i]? with
      | none =>
        rw [ej] at hv
        cases hv
      | some j =>
      rw [ej] at hv
      have ev : V.int ((j : Nat) : Int) = v := Option.some.inj hv
      subst ev
      have hj : j < xs.length := List.mem_range.mp (perm.mem_iff.mp (List.mem_of_getElem? ej))
      have ex := List.getElem?_eq_getElem hj
      have pl2 : ((ps.take i).filterMap fun j => xs[j]?).length ≤ 1000 := Nat.le_trans (List.length_filterMap_le _ _) (by
        have := perm.length_eq
        rw [List.length_range] at this
        rw [List.length_take]
        omega)
      refine ⟨rfl, _, rfl, _, rfl, _, _, _, _, rfl, rfl, .inl (.inl hr2), atI_nat ex, _, hD2, Nat.lt_of_le_of_lt pl2 (by decide), ?_, S2.put nDa, ?_, ?_, ?_⟩
      · exact B1.grown nD B2 hD2
      · rw [upd_ne (Ne.symm lD)]
        exact hl2
      · rw [upd_ne (Ne.symm rD)]
        exact hr2
      · rw [upd_same, List.take_add_one, ej]
        simp only [Option.toList, List.filterMap_append, List.filterMap_cons, List.filterMap_nil, ex]
    · rintro H2 ⟨B2, S2, hl2, hr2, hD2⟩
      have e : (natV ps).length = ps.length := List.length_map ..
      rw [e, List.take_length] at hD2
      refine q _ D H2 ?_ B2 S2 (B1.free nD nDa.1) nDa.1 nDa.2 hD2
      have := perm.filterMap fun j => xs[j]?
      exact this.trans (List.Perm.of_eq (pick_all xs))

theorem gen_e {t : TE} {σ : L2.St} {H : Hp} {Q : VK} (P : VK → Prop) (h1 : P Q) (h2 : ∀ Q', P Q' → t σ H Q') : t σ H Q := h2 Q h1
def msr (n : Nat) (c : Bool) : Nat := n + (if c then 1 else 0)
theorem Does.back_m {cs0 : List Nat} {mv : Grid} {fin : List (Option Str)} {ps qs q c zs ps1 qs1 q1 c1} (h : Does cs0 mv fin ps qs q c .back zs ps1 qs1 q1 c1) : msr ps1.length c1 = msr ps.length c - 1 := by
  cases h with
  | reopen => rfl
  | nothing e => subst e; rfl
  | back e _ => subst e; rw [List.length_append]; rfl
theorem Does.bad_m {cs0 : List Nat} {mv : Grid} {fin : List (Option Str)} {ps qs q c zs ps1 qs1 q1 c1 v} (h : Does cs0 mv fin ps qs q c (.push v) zs ps1 qs1 q1 c1) (no : ¬ ∃ ch, ch ∈ cs0 ∧ v = .str (⟨#[ch]⟩ : Str)) : msr ps1.length c1 = msr ps.length c := by
  cases h with
  | bad _ => rfl
  | shut e m => exact (no ⟨_, m, e⟩).elim
  | none e m _ => exact (no ⟨_, m, e⟩).elim
  | push e m => exact (no ⟨_, m, e⟩).elim
theorem Does.closed_m {cs0 : List Nat} {mv : Grid} {fin : List (Option Str)} {ps qs q c zs ps1 qs1 q1 c1} (h : Does cs0 mv fin ps qs q c .close zs ps1 qs1 q1 c1) (e : c = true) : msr ps1.length c1 = msr ps.length c := by
  cases h with
  | closed => rfl
  | open_ _ => cases e
  | close _ => cases e
def sp_unwound [Tabl] (CS : Addr) (K : PySem.W.Frag) : Sp := fun vs H Q _ => ∃ (a ca X A B : Addr) (side : Int) (r z : Str) (w o : Wc) (v u : Ws) (L L2 : List Addr), vs = [.ref a, .ref X, .int side] ∧ Sto H a ca ∧ H X = some (.lst [.ref A, .ref B]) ∧ ((side = 0 ∧ A = w.W ∧ B = o.W) ∨ (side = 1 ∧ A = o.W ∧ B = w.W)) ∧ WldA CS r z L H w v ∧ WldA CS r z L2 H o u ∧ w.s ≠ o.s ∧ w.W ∈ L2 ∧ w.P ∈ L2 ∧ w.S ∈ L2 ∧ X ∉ w.W :: w.P :: w.S :: L ∧ a ∈ L ∧ a ∈ L2 ∧ X ≠ a ∧ ca ∉ [w.W, w.P, w.S] ∧ (∀ c ∈ L, H c ≠ none) ∧ v.ps.length ≤ 1000 ∧ u.ps.length ≤ 7000 ∧
  ∀ H2 v2, v2.ps = [] → v2.c = false → ButI w.s [w.W, w.P, w.S, a] H H2 → WldA CS r z L H2 w v2 → WldA CS r z L2 H2 o u → Sto H2 a ca → Q (.bl true) H2
theorem ok_unwound (T : Txt K mg base) : FnOk P w K mg base CX0 (11 + 1) T.f_unwound T.fd_unwound ["store", "worlds", "side"] (sp_unwound T.C_Session K) := by
  refine T.F_unwound.ok sc_unwound (fun vs H Q E h => ?_) (fun cdv A0 outer st H vs Q E hr h => ?_)
  · obtain ⟨a, ca, X, A, B, side, r, z, w, o, v, u, L, L2, rfl, _⟩ := h
    rfl
  · obtain ⟨a, ca, X, A, B, side, r, z, wc, oc, v, u, L, L2, rfl, S, hX, hside, hw, ho, nso, mW, mP, mS, nX, ma, ma2, Xa, nca, nL, lv, lu, k⟩ := h
    refine ⟨_, (pss_cons (ps_set (i := 3) sc_unwound.nd rfl (.inl rfl) (pe_ix ix_list (pv 1) (pv 2) (fun _ _ => rfl)))
      (pss_cons (ps_set (i := 4) sc_unwound.nd rfl (.inl rfl) (pe_op op_add (pe_callB call_len_seq (by rfl) T.z_len PySem.boot_len (pa_cons (pe_ix ix_list (pv 3) pe_int (fun _ _ => rfl)) pa_nil)) (pe_callTy call_int1 (by rfl) T.z_int (by decide +kernel) (pa_cons (pe_ix ix_list (pv 3) pe_int (fun _ _ => rfl)) pa_nil))))
      (pss_cons (ps_for PassesOwn.never rfl (pi_range1 (by rfl) T.z_range (pa_cons (pv 4) pa_nil)) (pg_name (i := 5) sc_unwound.nd rfl (.inl rfl)) (pss_cons (ps_set (i := 6) sc_unwound.nd rfl (.inl rfl) (pe_or (pe_cmpR op_lt (pv 4) pe_int (nomark _)) (pe_one (pe_cmpR op_eq (pe_op op_mod (pe_callTy call_int1 (by rfl) T.z_int (by decide +kernel) (pa_cons (pv 5) pa_nil)) pe_int) pe_int (nomark _)))))
      (pss_cons (ps_set (i := 7) sc_unwound.nd rfl (.inl rfl) (pe_call (ok_take T) (hr.mono (by first | decide | exact Nat.le_refl _)) (by rfl) T.g_take T.F_take.kp T.b_take .nil pass0 (pa_cons (pv 0) (pa_cons pe_int pa_nil))))
      (pss_cons (ps_if (PW.pt (pw_and (pt_cmpR op_eq (pv 7) pe_int (nomark _)) (pw_and1 (pt_not (pt_val (pe_call (ok_run T) (hr.mono (by first | decide | exact Nat.le_refl _)) (by rfl) T.g_run T.F_run.kp T.b_run .nil pass0 (pa_cons (pv 1) (pa_cons (pv 2) (pa_cons (pe_tup (pa_cons pe_str (pa_cons (pe_call (ok_not_letter T) (hr.mono (by first | decide | exact Nat.le_refl _)) (by rfl) T.g_not_letter T.F_not_letter.kp T.b_not_letter .nil pass0 (pa_cons (pv 0) (pa_cons (pe_ix ix_tup (pe_ix ix_list (pv 3) pe_int (fun _ _ => rfl)) pe_int (fun _ _ => rfl)) pa_nil))) pa_nil))) (pa_cons (pv 6) pa_nil)))))))))) (pss_one (ps_ret pe_bl)) pss_nil)
      (pss_cons (ps_if (PW.pt (pw_and (pt_cmpR op_eq (pv 7) pe_int (nomark _)) (pw_and (pt_val (pe_ix ix_list (pv 3) pe_int (fun _ _ => rfl))) (pw_and1 (pt_not (pt_val (pe_call (ok_run T) (hr.mono (by first | decide | exact Nat.le_refl _)) (by rfl) T.g_run T.F_run.kp T.b_run .nil pass0 (pa_cons (pv 1) (pa_cons (pv 2) (pa_cons (pe_tup (pa_cons pe_str pa_nil)) (pa_cons (pv 6) pa_nil))))))))))) (pss_one (ps_ret pe_bl)) pss_nil)
      (pss_one (ps_if (pt_not (pt_val (pe_call (ok_run T) (hr.mono (by first | decide | exact Nat.le_refl _)) (by rfl) T.g_run T.F_run.kp T.b_run .nil pass0 (pa_cons (pv 1) (pa_cons (pv 2) (pa_cons (pe_tup (pa_cons pe_str pa_nil)) (pa_cons (pv 6) pa_nil))))))) (pss_one (ps_ret pe_bl)) pss_nil)))))))
      (pss_cons (ps_for PassesOwn.never rfl (pi_range1 (by rfl) T.z_range (pa_cons pe_int pa_nil)) (pg_name (i := 5) sc_unwound.nd rfl (.inl rfl)) (pss_one (ps_if (pt_not (pt_val (pe_call (ok_run T) (hr.mono (by first | decide | exact Nat.le_refl _)) (by rfl) T.g_run T.F_run.kp T.b_run .nil pass0 (pa_cons (pv 1) (pa_cons (pv 2) (pa_cons (pe_tup (pa_cons pe_str pa_nil)) (pa_cons pe_bl pa_nil))))))) (pss_one (ps_ret pe_bl)) pss_nil)))
      (pss_one (ps_ret (pe_and (pe_notT (pe_ix ix_list (pv 3) pe_int (fun _ _ => rfl))) (pe_one (pe_not (pe_ix ix_list (pv 3) pe_int (fun _ _ => rfl))))))))))), ?_⟩
    have g := hw.g
    have na : a ∉ [wc.W, wc.P, wc.S] := by
      intro m
      simp only [List.mem_cons, List.not_mem_nil, or_false] at m
      rcases m with e | e | e
      · exact hw.nW (by rw [← e]; exact ma)
      · exact hw.se.nP (by rw [← e]; exact List.mem_cons_of_mem _ ma)
      · exact hw.se.nS (by rw [← e]; exact List.mem_cons_of_mem _ ma)
    have nX3 : X ∉ [wc.W, wc.P, wc.S] := fun m => nX (by
      simp only [List.mem_cons, List.not_mem_nil, or_false] at m ⊢
      rcases m with m | m | m <;> simp [m])
    have sub2 : ∀ b ∈ [wc.W, wc.P, wc.S], b ∈ L2 := fun b m => by
      simp only [List.mem_cons, List.not_mem_nil, or_false] at m
      rcases m with rfl | rfl | rfl
      · exact mW
      · exact mP
      · exact mS
    have sub4 : ∀ b ∈ [wc.W, wc.P, wc.S], b ∈ [wc.W, wc.P, wc.S, a] := fun b m => by
      simp only [List.mem_cons, List.not_mem_nil, or_false] at m ⊢
      rcases m with m | m | m <;> simp [m]
    have pre : ∀ c ∈ wc.W :: wc.P :: wc.S :: L, H c ≠ none := fun c m e => by
      simp only [List.mem_cons] at m
      rcases m with rfl | rfl | rfl | m
      · rw [hw.hW] at e; cases e
      · obtain ⟨xs, h, _⟩ := hw.se.hp; rw [h] at e; cases e
      · rw [hw.se.hs] at e; cases e
      · exact nL _ m e
    obtain ⟨Iv, eI⟩ : ∃ Iv : Ws → Hp → Prop, Iv = fun v1 G => WldA T.C_Session r z L G wc v1 ∧ WldA T.C_Session r z L2 G oc u ∧ G X = some (.lst [.ref A, .ref B]) ∧ Sto G a ca ∧ ButI wc.s [wc.W, wc.P, wc.S, a] H G := ⟨_, rfl⟩
    have iw : ∀ {v1 G}, Iv v1 G → WldA T.C_Session r z L G wc v1 ∧ Sto G a ca ∧ ButI wc.s [wc.W, wc.P, wc.S, a] H G := fun {v1 G} h => by
      rw [eI] at h
      exact ⟨h.1, h.2.2.2.1, h.2.2.2.2⟩
    have isame : ∀ {v1 G G'}, Iv v1 G → Same G G' → Iv v1 G' := fun {v1 G G'} h s => by
      rw [eI] at h ⊢
      obtain ⟨w1, o1, x1, s1, b1⟩ := h
      exact ⟨w1.same s, o1.same s, s _ _ x1, s1.same s, b1.trans (ButI.same s)⟩
    have ibut : ∀ {v1 G G'}, Iv v1 G → But a G G' → Sto G' a ca → Iv v1 G' := fun {v1 G G'} h B S' => by
      rw [eI] at h ⊢
      obtain ⟨w1, o1, x1, s1, b1⟩ := h
      obtain ⟨aL, haL⟩ : ∃ xs, G a = some (.lst xs) := by
        obtain ⟨ns, i, b, t, s, h1, _⟩ := s1
        exact ⟨_, h1⟩
      exact ⟨w1.but B ma haL, o1.but B ma2 haL, B _ _ Xa x1, S', b1.trans (⟨fun b o e _ l t => B.old b o (fun z => by subst z; exact l _ (by rw [haL] at e; cases e; rfl) (by simp)) e t, fun b xs e => by
        by_cases z : b = a
        · subst z
          obtain ⟨ns, i, b, t, s, h1, _⟩ := S'
          exact ⟨_, h1⟩
        · exact ⟨xs, B _ _ z e⟩, fun h => (fun e => by
          have := w1.se.ins
          exact h (B.free e (fun z => by rw [z, haL] at this; cases this))), B.tab, B.good⟩)⟩
    have ran : ∀ {v1 : Ws} {G : Hp} {d : Deed} {dt : Addr} {whole : Bool} {Q' : VK} {E' : XK}, Iv v1 G → v1.ps.length ≤ 7000 → G dt = some (.tup (deedV d)) → (∀ x, d = .push x → ∀ c ∈ wc.W :: wc.P :: wc.S :: L, Deep c 2 G x) → (∀ G' v2 ys, Does (cs r) wc.mv wc.fin v1.ps v1.qs v1.q v1.c d ys v2.ps v2.qs v2.q v2.c → Iv v2 G' → Q' (.bl true) G') → sp_run T.C_Session K [.ref X, .int side, .ref dt, .bl whole] G Q' E' := fun {v1 G d dt whole Q' E'} h l hd dn q => by
      rw [eI] at h
      obtain ⟨w1, o1, x1, s1, b1⟩ := h
      refine ⟨X, A, B, dt, side, whole, d, r, z, wc, oc, v1, u, L, L2, rfl, x1, hside, w1, o1, nso, mW, mP, mS, nX, hd, dn, fun c m => b1.held (nL c m), l, lu, fun G' v2 ys D b w2 => q G' v2 ys D ?_⟩
      rw [eI]
      exact ⟨w2, o1.buti w1.se.ins (Ne.symm nso) b sub2, b.row w1.se.ins x1 nX3, sto_buti w1.se.ins s1 b na nca, b1.trans (b.more sub4)⟩
    have I0 : Iv v H := by
      rw [eI]
      exact ⟨hw, ho, hX, S, ButI.same (.refl H)⟩
    have at1 : ∃ W, atI [V.ref A, V.ref B] side = some (.ref W) ∧ W = wc.W := by
      rcases hside with ⟨rfl, h, _⟩ | ⟨rfl, _, h⟩
      · exact ⟨A, atI_nat (j := 0) rfl, h⟩
      · exact ⟨B, atI_nat (j := 1) rfl, h⟩
    obtain ⟨W, ea, rfl⟩ := at1
    refine ⟨_, rfl, _, rfl, X, _, _, _, rfl, rfl, .inl (.inl hX), ea, ?_⟩
    refine ⟨_, rfl, wc.W, _, _, _, rfl, rfl, .inl (.inl hw.hW), atI_nat (j := 2) rfl, v.pa, _, rfl, .inl (.inl (.inl hw.hpa)), _, rfl, wc.W, _, _, _, rfl, rfl, .inl (.inl hw.hW), atI_nat (j := 3) rfl, .inr ⟨_, rfl, _, _, rfl, rfl, ?_⟩⟩
    have lz : v.zs.length = v.ps.length := by rw [hw.en.len, hw.pt.len]
    have eN : ((v.zs.length : Nat) : Int) + (if v.c = true then 1 else 0) = ((msr v.ps.length v.c : Nat) : Int) := by
      unfold msr
      rw [lz]
      cases v.c <;> rfl
    dsimp only
    rw [eN]
    have lN : msr v.ps.length v.c ≤ 1001 := by
      unfold msr
      split <;> omega
    have eM : msr v.ps.length v.c = msr v.ps.length v.c := rfl
    generalize hN : msr v.ps.length v.c = N at lN
    clear eN eM
    have lps : ∀ {v1 : Ws} {m : Nat}, msr v1.ps.length v1.c = m → m ≤ 1001 → v1.ps.length ≤ 7000 := fun {v1 m} e l => by
      unfold msr at e
      omega
    have pre1 : ∀ {v1 G}, Iv v1 G → ∀ c ∈ wc.W :: wc.P :: wc.S :: L, G c ≠ none := fun I c m => (iw I).2.2.held (pre c m)
    refine ⟨_, rfl, (N : Int), rfl, by omega, by omega, ?_⟩
    refine for_range (lo := 0) (n := (N : Int).toNat) (fun i σ G => (∃ y5 y6 y7, σ = [some (.ref a), some (.ref X), some (.int side), some (.ref wc.W), some (.int (N : Int)), y5, y6, y7]) ∧ ∃ v1, Iv v1 G ∧ msr v1.ps.length v1.c = N - i)
      ⟨⟨_, _, _, rfl⟩, v, I0, hN⟩ ?_ ?_
    · rintro i σ G hi ⟨⟨y5, y6, y7, rfl⟩, v1, I1, e1⟩
      have lM : N - i ≤ 1001 := by omega
      have eM1 : N - (i + 1) = N - i - 1 := by omega
      rw [eM1]
      generalize N - i = M at e1 lM
      unfold tSeq tAsg
      refine gen_e (t := tOrV _ _) (P := fun Kc => ∀ b : Bool, Kc (.bl b) G) ?_ (fun Kc kk => ?_)
      rotate_left
      · refine ⟨_, rfl, _, _, rfl, rfl, _, rfl, ite2 (fun _ => kk _) (fun _ => ?_)⟩
        exact ⟨_, rfl, .inl ⟨_, rfl, _, _, rfl, rfl, (by show (0 : Int) < 8; decide), rfl, kk _⟩⟩
      intro whole
      refine ⟨_, rfl, a, ca, 6, rfl, (iw I1).2.1, by decide, fun d G1 d0 d1 B1 S1 => ?_⟩
      have I2 := ibut I1 B1 S1
      clear I1 B1 S1
      dsimp only
      unfold tIfS
      refine gen_k (t := tAnd _ _) (P := fun Kc => ∀ G', (∃ v1, Iv v1 G' ∧ msr v1.ps.length v1.c = M) → Kc false G') ?_ (fun Kc kk => ?_)
      rotate_left
      · refine ⟨_, rfl, rfl, _, rfl, ite2 (fun _ => ?_) (fun _ => kk _ ⟨v1, I2, e1⟩)⟩
        obtain ⟨w2, S2, _⟩ := iw I2
        refine ⟨_, rfl, _, rfl, _, rfl, _, rfl, wc.W, _, _, _, rfl, rfl, .inl (.inl w2.hW), atI_nat (j := 0) rfl, wc.p, _, _, _, rfl, rfl, .inl (.inl w2.rp.hp), rfl, a, ca, r, rfl, S2, g.ar, fun x G3 no nv B3 S3 => ⟨by show 2 ≤ sizeLine; decide, fun t nt => ?_⟩⟩
        have I3 := ibut I2 B3 S3
        have kt := same_new (o := .tup (deedV (.push x))) nt
        refine ⟨_, rfl, ?_⟩
        dsimp only [tNil, tCons, tC]
        refine ran (d := .push x) (isame I3 kt) (lps e1 lM) upd_same (fun y e c mc => by cases e; exact (nv c (pre1 I2 c mc)).same kt) fun G4 v2 ys D I4 => ?_
        exact ⟨true, rfl, kk _ ⟨v2, I4, by rw [D.bad_m no, e1]⟩⟩
      clear I2 e1 v1
      rintro G2 ⟨v1, I2, e1⟩
      refine iteN rfl ?_
      unfold tNext
      dsimp only
      refine gen_k (t := tAnd _ _) (P := fun Kc => ∀ G', (∃ v1, Iv v1 G' ∧ msr v1.ps.length v1.c = M) → Kc false G') ?_ (fun Kc kk => ?_)
      rotate_left
      · refine ⟨_, rfl, rfl, _, rfl, ite2 (fun _ => ?_) (fun _ => kk _ ⟨v1, I2, e1⟩)⟩
        obtain ⟨w2, S2, _⟩ := iw I2
        refine ⟨_, rfl, wc.W, _, _, _, rfl, rfl, .inl (.inl w2.hW), atI_nat (j := 3) rfl, _, rfl, ite2 (fun hc => ?_) (fun _ => kk _ ⟨v1, I2, e1⟩)⟩
        refine ⟨_, rfl, _, rfl, by show 1 ≤ sizeLine; decide, fun t nt => ?_⟩
        have kt := same_new (o := .tup (deedV .close)) nt
        refine ⟨_, rfl, ?_⟩
        dsimp only [tNil, tCons, tC]
        refine ran (d := .close) (isame I2 kt) (lps e1 lM) upd_same (fun y e => by cases e) fun G4 v2 ys D I4 => ?_
        exact ⟨true, rfl, kk _ ⟨v2, I4, by rw [D.closed_m hc, e1]⟩⟩
      clear I2 e1 v1
      rintro G2 ⟨v1, I2, e1⟩
      refine iteN rfl ?_
      refine ⟨_, rfl, _, rfl, by show 1 ≤ sizeLine; decide, fun t nt => ?_⟩
      have kt := same_new (o := .tup (deedV .back)) nt
      refine ⟨_, rfl, ?_⟩
      dsimp only [tNil, tCons, tC]
      refine ran (d := .back) (isame I2 kt) (lps e1 lM) upd_same (fun y e => by cases e) fun G4 v2 ys D I4 => ?_
      exact ⟨true, rfl, iteN rfl ⟨⟨_, _, _, rfl⟩, v2, I4, by rw [D.back_m, e1]⟩⟩
    · rintro σ G ⟨⟨y5, y6, y7, rfl⟩, v1, I1, e1⟩
      have e0 : msr v1.ps.length v1.c = 0 := by rw [e1]; show N - N = 0; omega
      clear e1
      refine ⟨2, rfl, by decide, by decide, ?_⟩
      refine for_range (lo := 0) (n := (2 : Int).toNat) (fun i σ G => (∃ y5 y6 y7, σ = [some (.ref a), some (.ref X), some (.int side), some (.ref wc.W), some (.int (N : Int)), y5, y6, y7]) ∧ ∃ v1, Iv v1 G ∧ msr v1.ps.length v1.c = 0)
        ⟨⟨_, _, _, rfl⟩, v1, I1, e0⟩ ?_ ?_
      · clear I1 e0 v1
        rintro i σ G hi ⟨⟨y5, y6, y7, rfl⟩, v1, I2, e1⟩
        refine ⟨_, rfl, _, rfl, by show 1 ≤ sizeLine; decide, fun t nt => ?_⟩
        have kt := same_new (o := .tup (deedV .back)) nt
        dsimp only [tNil, tCons, tC]
        refine ran (d := .back) (isame I2 kt) (lps e1 (by decide)) upd_same (fun y e => by cases e) fun G4 v2 ys D I4 => ?_
        exact ⟨true, rfl, iteN rfl ⟨⟨_, _, _, rfl⟩, v2, I4, by rw [D.back_m, e1]⟩⟩
      · clear I1 e0 v1
        rintro σ G ⟨⟨y5, y6, y7, rfl⟩, v1, I2, e1⟩
        have c0 : v1.c = false := by
          cases h : v1.c with
          | false => rfl
          | true =>
            rw [h] at e1
            unfold msr at e1
            exact absurd e1 (by show ¬ (v1.ps.length + 1 = 0); omega)
        have p0 : v1.ps = [] := List.length_eq_zero_iff.mp (by unfold msr at e1; omega)
        rw [eI] at I2
        obtain ⟨w2, o2, x2, S2, b2⟩ := I2
        have z0 : v1.zs = [] := List.length_eq_zero_iff.mp (by rw [w2.en.len, w2.pt.len, p0]; rfl)
        refine ⟨_, rfl, wc.W, _, _, _, rfl, rfl, .inl (.inl w2.hW), atI_nat (j := 2) rfl, _, .inl ⟨_, .inl (.inl w2.hpa), rfl⟩, _, rfl, iteC (by rw [z0]; rfl) ⟨_, rfl, wc.W, _, _, _, rfl, rfl, .inl (.inl w2.hW), atI_nat (j := 3) rfl, _, rfl, ?_⟩⟩
        rw [c0]
        exact k G v1 p0 c0 b2 w2 o2 S2

theorem sgn_mul {z : Str} {c : Nat} (hc : c ∈ cs z) {k : Int} (k4 : k < 4) : Over z (Txt.mul (⟨#[c]⟩ : Str) k) ∧ (Txt.mul (⟨#[c]⟩ : Str) k).length ≤ 3 := by
  refine ⟨Over.mul fun d md => ?_, ?_⟩
  · rw [show d = c from List.mem_singleton.mp md]
    exact hc
  · rw [length_mul, show (⟨#[c]⟩ : Str).length = 1 from rfl]
    omega
def sp_wide_reader [Tabl] (_ : PySem.W.Frag) : Sp := fun vs H Q _ => ∃ (a ca : Addr) (r z : Str) (n : Nat), vs = [.ref a, .str r, .str z, .int (n : Int)] ∧ Sto H a ca ∧ IsAlpha r ∧ IsAlpha z ∧ 1 ≤ n ∧ n ≤ 64 ∧
  ∀ (p M F : Addr) (f : Str) (mv : Grid) (fin : List (Option Str)) (H' : Hp), GoodR r z f mv fin → Short 3 f mv fin → mv.length = n → But a H H' → Sto H' a ca → H p = none → (∀ L : List Addr, (∀ c ∈ L, H c ≠ none) → RP L H' p r z f mv fin M F) → Q (.ref p) H'
theorem ok_wide_reader (T : Txt K mg base) : FnOk P w K mg base CX0 (3 + 1) T.f_wide_reader T.fd_wide_reader ["store", "read", "write", "size"] (sp_wide_reader K) := by
  refine T.F_wide_reader.ok sc_wide_reader (fun vs H Q E h => ?_) (fun cdv A outer s H vs Q E hr h => ?_)
  · obtain ⟨a, ca, r, z, n, rfl, _⟩ := h
    rfl
  · obtain ⟨a, ca, r, z, n, rfl, S, ar, az, n1, n64, q⟩ := h
    refine ⟨_, (pss_cons (ps_set (i := 4) sc_wide_reader.nd rfl (.inr rfl) (pe_call (ok_take T) (hr.mono (by first | decide | exact Nat.le_refl _)) (by rfl) T.g_take T.F_take.kp T.b_take .nil pass0 (pa_cons (pv 0) (pa_cons (pv 3) pa_nil))))
      (pss_cons (ps_set (i := 5) sc_wide_reader.nd rfl (.inl rfl) (pe_op op_add pe_int (pe_call (ok_take T) (hr.mono (by first | decide | exact Nat.le_refl _)) (by rfl) T.g_take T.F_take.kp T.b_take .nil pass0 (pa_cons (pv 0) (pa_cons pe_int pa_nil)))))
      (pss_cons (ps_set (i := 6) sc_wide_reader.nd rfl (.inr rfl) (pe_call (ok_pick T) (hr.mono (by first | decide | exact Nat.le_refl _)) (by rfl) T.g_pick T.F_pick.kp T.b_pick .nil pass0 (pa_cons (pv 0) (pa_cons (pv 2) pa_nil))))
      (pss_cons (ps_set (i := 7) sc_wide_reader.nd rfl (.inl rfl) (pe_lst pa_nil))
      (pss_cons (ps_for PassesOwn.never rfl (pi_range1 (by rfl) T.z_range (pa_cons (pv 3) pa_nil)) (pg_name (i := 8) sc_wide_reader.nd rfl (.inr rfl)) (pss_cons (ps_setLc (i := 9) (own := [("j", 11)]) (g := gName 11) rfl sc_wide_reader.nd rfl rfl (sw_true rfl rfl rfl (by decide +kernel)) (pi_range1 (by rfl) T.z_range (pa_cons (pe_callB call_len_str (by rfl) T.z_len PySem.boot_len (pa_cons (pv 1) pa_nil)) pa_nil)) (blkOk_by (N := ["store", "read", "write", "size", "step", "part", "sign", "moves", "k", "row", "finals", "j"]) (sc := defScope s_wide_reader) (by decide +kernel)) (fun _ _ _ _ _ => pg_name (i := 11) sc_wide_reader.nd rfl (Or.inl rfl)) (fun _ _ _ _ _ => pts_nil) (fun _ _ _ _ _ => (pe_tup (pa_cons (pe_op op_rep_str (pv 6) (pe_op op_mod (pe_callTy call_int1 (by rfl) T.z_int (by decide +kernel) (pa_cons (pe_op op_add (pv 8) (pv 11)) pa_nil)) pe_int)) (pa_cons (pe_op op_mod (pe_callTy call_int1 (by rfl) T.z_int (by decide +kernel) (pa_cons (pe_op op_add (pe_op op_add (pe_op op_mul (pv 8) (pe_op op_add (pv 11) pe_int)) (pe_op op_mul (pv 11) (pv 4))) pe_int) pa_nil)) (pv 3)) pa_nil)))))
      (pss_one (ps_expr (pe_bm PySem.F.plainAttrs_list PySem.F.slot_list_append PySem.F.type_list_append mt_append (pv 7) (pa_cons (pv 9) pa_nil))))))
      (pss_cons (ps_setLc (i := 10) (own := [("k", 8)]) (g := gName 8) rfl sc_wide_reader.nd rfl rfl (sw_true rfl rfl rfl (by decide +kernel)) (pi_range1 (by rfl) T.z_range (pa_cons (pv 3) pa_nil)) (blkOk_by (N := ["store", "read", "write", "size", "step", "part", "sign", "moves", "k", "row", "finals", "j"]) (sc := defScope s_wide_reader) (by decide +kernel)) (fun _ _ _ _ _ => pg_name (i := 8) sc_wide_reader.nd rfl (Or.inl rfl)) (fun _ _ _ _ _ => pts_nil) (fun _ _ _ _ _ => pe_non))
      (pss_cons (ps_for PassesOwn.never rfl (pi_range1 (by rfl) T.z_range (pa_cons (pv 3) pa_nil)) (pg_name (i := 8) sc_wide_reader.nd rfl (.inr rfl)) (pss_one (ps_if (pt_cmpR op_eq (pe_op op_mod (pe_callTy call_int1 (by rfl) T.z_int (by decide +kernel) (pa_cons (pe_op op_add (pv 8) (pv 4)) pa_nil)) (pv 5)) pe_int (nomark _)) (pss_one (ps_asg (pe_op op_rep_str (pv 6) (pe_op op_mod (pe_callTy call_int1 (by rfl) T.z_int (by decide +kernel) (pa_cons (pv 8) pa_nil)) pe_int)) (pg_sub (pv 10) (pv 8) set_list))) pss_nil)))
      (pss_one (ps_ret (pe_tup (pa_cons (pv 1) (pa_cons (pv 2) (pa_cons (pe_op op_rep_str (pv 6) (pe_op op_mod (pe_callTy call_int1 (by rfl) T.z_int (by decide +kernel) (pa_cons (pv 4) pa_nil)) pe_int)) (pa_cons (pv 7) (pa_cons (pv 10) pa_nil))))))))))))))), ?_⟩
    have z0 := az.len1
    have z4 : z.length ≤ 4000000 := az.small
    have r4 : r.length ≤ 4 := ar.len4
    refine ⟨_, rfl, _, rfl, a, ca, (n : Int), rfl, S, by omega, fun st H1 st0 st1 B1 S1 => ?_⟩
    have st1 : st < (n : Int) := by omega
    refine ⟨_, rfl, a, ca, 4, rfl, S1, by decide, fun pt H2 pt0 _ B2 S2 => ⟨_, _, rfl, rfl, ?_⟩⟩
    have B2 := B1.trans B2
    refine ⟨_, rfl, _, rfl, a, ca, S2, .inl ⟨z, rfl, z0, z4, fun c H3 mc B3 S3 => ?_⟩⟩
    have B3 := B2.trans B3
    clear S1 S2 B1 B2
    have one16 : (⟨#[c]⟩ : Str).length ≤ 16 := by show 1 ≤ 16; decide
    refine ⟨by show 0 ≤ sizeLine; decide, fun M nM => ?_⟩
    have xM := S3.ne nM
    have nMH := B3.free nM xM.1
    have k4 := same_new (o := .lst []) nM
    have hM : (upd H3 M (.lst [])) M = some (.lst []) := upd_same
    have S4 := S3.new (o := .lst []) nM
    have B4 := B3.trans (But.same k4)
    generalize upd H3 M (.lst []) = H4 at k4 hM S4 B4 ⊢
    clear S3 B3 k4 nM
    obtain ⟨Ok, eOk⟩ : ∃ Ok : Addr → Prop, Ok = fun p => H p = none ∧ p ≠ M ∧ p ≠ a := ⟨_, rfl⟩
    have ok1 : ∀ p, Ok p → H p = none := fun p h => by rw [eOk] at h; exact h.1
    have okM : ∀ p, Ok p → p ≠ M := fun p h => by rw [eOk] at h; exact h.2.1
    have oka : ∀ p, Ok p → p ≠ a := fun p h => by rw [eOk] at h; exact h.2.2
    refine ⟨_, rfl, (n : Int), rfl, by omega, by omega, ?_⟩
    refine for_range (lo := 0) (n := n) (fun i σ' G => (∃ y8 y9 y10 y11, σ' = [some (.ref a), some (.str r), some (.str z), some (.int (n : Int)), some (.int st), some (.int (1 + pt)), some (.str (⟨#[c]⟩ : Str)), some (.ref M), y8, y9, y10, y11]) ∧ But a H G ∧ Sto G a ca ∧ ∃ mv : Grid, RowsAt Ok G M mv ∧ mv.length = i ∧ (∀ row ∈ mv, row.length = r.length ∧ ∀ m ∈ row, StpOk z n m))
      ⟨⟨_, _, _, _, rfl⟩, B4, S4, [], ⟨[], hM, .nil⟩, rfl, fun row m => absurd m List.not_mem_nil⟩ ?_ ?_
    · rintro i σ' G hi ⟨⟨y8, y9, y10, y11, rfl⟩, BG, SG, mv, rw_, lmv, gmv⟩
      refine ⟨_, rfl, r, rfl, small_text ar.small, (r.length : Int), rfl, by omega, by omega, fun R nR => ?_⟩
      have xR := SG.ne nR
      have nRH := BG.free nR xR.1
      have MR : M ≠ R := fun e => by obtain ⟨_, h, _⟩ := rw_; rw [e, nR] at h; cases h
      refine lc_range (lo := 0) (n := r.length) (fun j G' => Same G G' ∧ ∃ xs row, G' R = some (.lst xs) ∧ Paired (StpAt G') xs row ∧ row.length = j ∧ ∀ m ∈ row, StpOk z n m) ⟨same_new nR, [], [], upd_same, .nil, rfl, fun m mm => absurd mm List.not_mem_nil⟩ ?_ ?_
      · rintro j G' hj ⟨s1, xs, row, hR, stp, lrow, gst⟩
        have i64 : i < 64 := by have : i < n := hi; omega
        have j4 : j < 4 := by have : j < r.length := hj; omega
        have m1 : CMul (0 + (i : Int)) (0 + (j : Int) + 1) := .inl ⟨by omega, by omega⟩
        have m2 : CMul (0 + (j : Int)) st := .inl ⟨by omega, by omega⟩
        obtain ⟨ov, lv⟩ := sgn_mul mc (show (0 + (i : Int) + (0 + (j : Int))) % 4 < 4 by omega)
        refine ⟨rfl, _, rfl, _, rfl, _, rfl, _, _, rfl, rfl, .inl ⟨_, rfl, _, _, rfl, rfl, by show (0 : Int) < _; decide, _, _, rfl, rfl, one16, by omega, by omega, ?_⟩⟩
        refine ⟨_, rfl, _, rfl, _, _, rfl, rfl, _, _, rfl, rfl, m1, _, rfl, _, rfl, _, _, rfl, rfl, m2, _, _, rfl, rfl, _, _, rfl, rfl, .inl ⟨_, rfl, _, rfl, _, _, rfl, rfl, by omega, by show 2 ≤ sizeLine; decide, fun t nt => ?_⟩⟩
        dsimp only
        generalize e1 : (0 + (i : Int) + (0 + (j : Int))) % 4 = w1 at ov lv ⊢
        generalize ew : ((0 + (i : Int)) * (0 + (j : Int) + 1) + (0 + (j : Int)) * st + 1) % (n : Int) = w2
        have w20 : 0 ≤ w2 := by rw [← ew]; exact Int.emod_nonneg _ (by omega)
        have w2n : w2 < (n : Int) := by rw [← ew]; exact Int.emod_lt_of_pos _ (by omega)
        have kt := same_new (o := .tup [.str (Txt.mul (⟨#[c]⟩ : Str) w1), .int w2]) nt
        have ht : (upd G' t (.tup [.str (Txt.mul (⟨#[c]⟩ : Str) w1), .int w2])) t = some (.tup [.str (Txt.mul (⟨#[c]⟩ : Str) w1), .int w2]) := upd_same
        have hR1 := kt _ _ hR
        have st1 : Paired (StpAt (upd G' t (.tup [.str (Txt.mul (⟨#[c]⟩ : Str) w1), .int w2]))) xs row := stps_keep stp fun t zs e => kt _ _ e
        have s2 := s1.trans kt
        generalize upd G' t (.tup [.str (Txt.mul (⟨#[c]⟩ : Str) w1), .int w2]) = G2 at kt ht hR1 st1 s2 ⊢
        have lx := st1.length
        refine ⟨xs, hR1, Nat.lt_of_le_of_lt (by omega : _ ≤ 1000) (by decide), (Same.refl G).grown nR s2 hR1, _, row ++ [some (Txt.mul (⟨#[c]⟩ : Str) w1, w2)], upd_same, stps_snoc st1 (fun t zs e => by rw [upd_ne fun z => by rw [z, hR1] at e; cases e]; exact e) ⟨t, rfl, ht⟩, by rw [List.length_append, lrow]; rfl, fun m mm => ?_⟩
        rcases List.mem_append.mp mm with mm | mm
        · exact gst m mm
        · rw [List.mem_singleton.mp mm]
          intro x q' e
          cases e
          exact ⟨ov, lv, w20, w2n⟩
      · rintro G2 ⟨s1, xs, row, hR, stp, lrow, gst⟩
        obtain ⟨rows, hM2, pr2⟩ := rw_.same s1
        have lr2 := pr2.length
        have SG2 := SG.same s1
        have BG2 := BG.trans (But.same s1)
        refine ⟨_, rfl, .inl ⟨rfl, _, .inl (.inl hM2)⟩, _, rfl, M, rows, .ref R, rfl, rfl, hM2, Nat.lt_of_le_of_lt (by omega : _ ≤ 1000) (by decide), ?_⟩
        have rw3 := RowsAt.push (row := row) pr2 hM2 hR (by rw [eOk]; exact ⟨nRH, Ne.symm MR, xR.1⟩) stp okM
        refine ⟨⟨_, _, _, _, rfl⟩, (But.refl H).grown nMH BG2 hM2, SG2.put xM, mv ++ [row], rw3, by rw [List.length_append, lmv]; rfl, fun row' mr => ?_⟩
        rcases List.mem_append.mp mr with mr | mr
        · exact gmv row' mr
        · rw [List.mem_singleton.mp mr]
          exact ⟨lrow, gst⟩
    rintro σ' G ⟨⟨y8, y9, y10, y11, rfl⟩, BG, SG, mv, rw_, lmv, gmv⟩
    refine ⟨_, rfl, (n : Int), rfl, by omega, by omega, fun F nF => ?_⟩
    have xF := SG.ne nF
    have nFH := BG.free nF xF.1
    have FM : M ≠ F := fun e => by obtain ⟨_, h, _⟩ := rw_; rw [e, nF] at h; cases h
    have rwF := rw_.apart nF
    refine lc_range (lo := 0) (n := n) (fun i G' => Same G G' ∧ G' F = some (.lst ((List.replicate i (none : Option Str)).map finV))) ⟨same_new nF, upd_same⟩ ?_ ?_
    · rintro i G' hi ⟨s1, hF⟩
      have i64 : i < 64 := by have : i < n := hi; omega
      refine ⟨rfl, _, hF, ?_, (Same.refl G).grown nF s1 hF, ?_⟩
      · rw [List.length_map, List.length_replicate]
        exact Nat.lt_of_le_of_lt (by omega : _ ≤ 1000) (by decide)
      · rw [upd_same, List.replicate_succ', List.map_append]
        rfl
    rintro G1 ⟨s1, hF⟩
    have rw1 := rwF.same s1
    have S1 := SG.same s1
    have B1 := BG.trans (But.same s1)
    clear rwF rw_ SG BG s1 nF S4 B4 hM
    refine ⟨_, rfl, (n : Int), rfl, by omega, by omega, ?_⟩
    refine for_range (lo := 0) (n := n) (fun i σ' G => (∃ y8 y9 y11, σ' = [some (.ref a), some (.str r), some (.str z), some (.int (n : Int)), some (.int st), some (.int (1 + pt)), some (.str (⟨#[c]⟩ : Str)), some (.ref M), y8, y9, some (.ref F), y11]) ∧ But a H G ∧ Sto G a ca ∧ RowsAt (fun p => Ok p ∧ p ≠ F) G M mv ∧ ∃ fin : List (Option Str), G F = some (.lst (fin.map finV)) ∧ fin.length = n ∧ ∀ x, some x ∈ fin → Over z x ∧ x.length ≤ 3)
      ⟨⟨_, _, _, rfl⟩, B1, S1, rw1, _, hF, List.length_replicate .., fun x m => by have := (List.mem_replicate.mp m).2; cases this⟩ ?_ ?_
    · rintro i σ' G hi ⟨⟨y8, y9, y11, rfl⟩, BG, SG, rw_, fin, hF, lfin, gfin⟩
      have hi' : i < n := hi
      refine ⟨_, rfl, _, rfl, _, _, rfl, rfl, .inl ⟨_, rfl, _, rfl, _, _, rfl, rfl, by omega, rfl, _, rfl, ite2 (fun _ => ?_) (fun _ => ?_)⟩⟩
      · obtain ⟨ov, lv⟩ := sgn_mul mc (show (0 + (i : Int)) % 3 < 4 by omega)
        refine ⟨_, rfl, _, rfl, .inl ⟨_, rfl, _, _, rfl, rfl, by show (0 : Int) < _; decide, _, _, rfl, rfl, one16, by omega, by omega, ?_⟩⟩
        refine ⟨_, rfl, _, rfl, F, _, _, i, rfl, rfl, hF, by rw [Int.zero_add]; exact ixN_at (by rw [List.length_map]; omega), ?_⟩
        refine ⟨⟨_, _, _, rfl⟩, (But.refl H).grown nFH BG hF, SG.put xF, rw_.put hF FM (fun p o => o.2), fin.set i (some (Txt.mul (⟨#[c]⟩ : Str) ((0 + (i : Int)) % 3))), by rw [upd_same, List.map_set]; rfl, by rw [List.length_set]; exact lfin, fun x mx => ?_⟩
        rcases List.mem_or_eq_of_mem_set mx with q' | q'
        · exact gfin x q'
        · cases q'
          exact ⟨ov, lv⟩
      · exact ⟨⟨_, _, _, rfl⟩, BG, SG, rw_, fin, hF, lfin, gfin⟩
    · rintro σ' G ⟨⟨y8, y9, y11, rfl⟩, BG, SG, rw_, fin, hF, lfin, gfin⟩
      obtain ⟨ov, lv⟩ := sgn_mul mc (show st % 3 < 4 by omega)
      refine ⟨_, rfl, _, rfl, _, rfl, _, rfl, .inl ⟨_, rfl, _, _, rfl, rfl, by show (0 : Int) < _; decide, _, _, rfl, rfl, one16, by omega, by omega, ?_⟩⟩
      generalize Txt.mul (⟨#[c]⟩ : Str) (st % 3) = f at ov lv ⊢
      refine ⟨_, rfl, _, rfl, by show 5 ≤ sizeLine; decide, fun p np => ?_⟩
      have xp := SG.ne np
      have rw7 := rw_.same (same_new (o := .tup [.str r, .str z, .str f, .ref M, .ref F]) np)
      have hF7 := same_new (o := .tup [.str r, .str z, .str f, .ref M, .ref F]) np _ _ hF
      refine q p M F f mv fin _ ⟨ar, az, ov, by omega, by omega, by omega, fun row m => (gmv row m).1, fun row m x t mt => by rw [lmv]; have h := (gmv row m).2 _ mt x t rfl; exact ⟨h.1, by omega, h.2.2⟩, by omega, fun x m => ⟨(gfin x m).1, by have := (gfin x m).2; omega⟩⟩ ⟨lv, fun row m x t mt => ((gmv row m).2 _ mt x t rfl).2.1, fun x m => (gfin x m).2⟩ lmv (BG.trans (But.new np)) (SG.new np) (BG.free np xp.1) fun L hL => ⟨upd_same, rw7.grid (fun m => hL _ m nMH) (fun p o m => hL _ m (ok1 p o.1)), hF7, fun m => hL _ m nFH⟩

theorem nd_more [Tabl] {G G' : Hp} {N : Addr} {L : List Addr} (h : L.Nodup ∧ ∀ c ∈ L, G c ≠ none) (n : G N = none) (k : Same G G') (e : G' N ≠ none) : (N :: L).Nodup ∧ ∀ c ∈ N :: L, G' c ≠ none :=
  ⟨List.nodup_cons.mpr ⟨fun m => h.2 _ m n, h.1⟩, fun c m => by
    rcases List.mem_cons.mp m with rfl | m
    · exact e
    · exact fun z => h.2 c m (k.free z)⟩
theorem nd_ne {L : List Addr} (nd : L.Nodup) (i j : Nat) {x y : Addr} (hx : L[i]? = some x) (hy : L[j]? = some y) (n : i ≠ j) : x ≠ y := fun e => by
  subst e
  have li := (List.getElem?_eq_some_iff.mp hx).1
  exact n ((List.getElem?_inj li nd).mp (hx.trans hy.symm))
theorem nd_out {L M : List Addr} (nd : L.Nodup) (i : Nat) (js : List Nat) {x : Addr} (hx : L[i]? = some x) (hM : M.map some = js.map fun j => L[j]?) (n : i ∉ js) : x ∉ M := fun m => by
  have h : some x ∈ M.map some := List.mem_map.mpr ⟨x, m, rfl⟩
  rw [hM] at h
  obtain ⟨j, mj, e⟩ := List.mem_map.mp h
  exact nd_ne nd i j hx e (fun z => n (by rw [z]; exact mj)) rfl
theorem in_out {L M : List Addr} (js : List Nat) (hM : M.map some = js.map fun j => L[j]?) : ∀ y ∈ M, y ∈ L := fun y m => by
  have h : some y ∈ M.map some := List.mem_map.mpr ⟨y, m, rfl⟩
  rw [hM] at h
  obtain ⟨j, mj, e⟩ := List.mem_map.mp h
  exact List.mem_of_getElem? e
theorem WldA.more [Tabl] {CS : Addr} {r z : Str} {L : List Addr} {G : Hp} {w : Wc} {v : Ws} {W : Addr} (h : WldA CS r z L G w v) (n : G W = none) : WldA CS r z (W :: L) G w v := by
  have k1 : ∀ b ∈ w.W :: w.P :: w.S :: W :: L, b ∈ W :: w.W :: w.P :: w.S :: L := fun b m => by
    simp only [List.mem_cons] at m ⊢
    rcases m with m | m | m | m | m <;> simp [m]
  have k2 : ∀ b ∈ w.W :: W :: L, b ∈ W :: w.W :: L := fun b m => by
    simp only [List.mem_cons] at m ⊢
    rcases m with m | m | m <;> simp [m]
  exact ⟨h.hW, apart_more n h.hW h.nW, (h.rp.more n).weak k1, (h.se.more n).weak k2, h.g, h.hpa, fun m => apart_more n h.hpa h.npa (k1 _ m), h.en, h.pt⟩
/-- a deed told to a side -/
def DeedAt (Z : List Addr) (G : Hp) (y : V) (e : Int × Deed) : Prop := ∃ t dt, y = .ref t ∧ G t = some (.tup [.int e.1, .ref dt]) ∧ G dt = some (.tup (deedV e.2)) ∧ (e.1 = 0 ∨ e.1 = 1) ∧ ∀ x, e.2 = .push x → ∀ c ∈ Z, Deep c 2 G x
theorem DeedAt.same [Tabl] {Z : List Addr} {G G' : Hp} {y : V} {e : Int × Deed} (h : DeedAt Z G y e) (k : Same G G') : DeedAt Z G' y e :=
  let ⟨t, dt, ey, ht, hd, s, dn⟩ := h
  ⟨t, dt, ey, k _ _ ht, k _ _ hd, s, fun x ex c m => (dn x ex c m).same k⟩
theorem DeedAt.but [Tabl] {Z : List Addr} {G G' : Hp} {y : V} {e : Int × Deed} {a : Addr} {zs : List V} (h : DeedAt Z G y e) (k : But a G G') (ma : a ∈ Z) (ha : G a = some (.lst zs)) : DeedAt Z G' y e := by
  obtain ⟨t, dt, ey, ht, hd, s, dn⟩ := h
  exact ⟨t, dt, ey, k _ _ (fun z => by rw [z, ha] at ht; cases ht) ht, k _ _ (fun z => by rw [z, ha] at hd; cases hd) hd, s, fun x ex c m => (dn x ex c m).put k (dn x ex a ma)⟩
theorem DeedAt.buti [Tabl] {Z L : List Addr} {G G' : Hp} {y : V} {e : Int × Deed} {s C dx : Addr} {fs : List (Str × V)} (h : DeedAt Z G y e) (hs : G s = some (.ins C dx fs)) (k : ButI s L G G') (hL : ∀ b ∈ L, b ∈ Z) : DeedAt Z G' y e := by
  obtain ⟨t, dt, ey, ht, hd, sd, dn⟩ := h
  exact ⟨t, dt, ey, k.tup hs ht, k.tup hs hd, sd, fun x ex c m => Deep.buti hs k (dn x ex c m) fun b mb => dn x ex b (hL b mb)⟩
theorem sto_lst {H : Hp} {a c : Addr} (h : Sto H a c) : ∃ zs : List V, H a = some (HO.lst zs) := by
  obtain ⟨ns, i, b, t, s, h1, _⟩ := h
  exact ⟨_, h1⟩
theorem ok_law (T : Txt K mg base) : FnOk P w K mg base CX0 (15 + 1) T.f_law T.fd_law ["script"] (sp_law K) := by
  refine T.F_law.ok sc_law (fun vs H Q E h => ?_) (fun cdv A outer st H vs Q E hr h => ?_)
  · obtain ⟨a, ns, rfl, _⟩ := h
    rfl
  · obtain ⟨sc, ns, rfl, hS, hlen, good, q⟩ := h
    have s := st
    refine ⟨_, (pss_cons (ps_set (i := 1) sc_law.nd rfl (.inl rfl) (pe_call (ok_store T) (hr.mono (by first | decide | exact Nat.le_refl _)) (by rfl) T.g_store T.F_store.kp T.b_store .nil pass0 (pa_cons (pv 0) pa_nil)))
      (pss_cons (ps_set (i := 2) sc_law.nd rfl (.inl rfl) (pe_call (ok_letters T) (hr.mono (by first | decide | exact Nat.le_refl _)) (by rfl) T.g_letters T.F_letters.kp T.b_letters .nil pass0 (pa_cons (pv 1) (pa_cons pe_int pa_nil))))
      (pss_cons (ps_set (i := 3) sc_law.nd rfl (.inl rfl) (pe_call (ok_letters T) (hr.mono (by first | decide | exact Nat.le_refl _)) (by rfl) T.g_letters T.F_letters.kp T.b_letters .nil pass0 (pa_cons (pv 1) (pa_cons pe_int pa_nil))))
      (pss_cons (ps_set (i := 4) sc_law.nd rfl (.inl rfl) (pe_call (ok_reader T) (hr.mono (by first | decide | exact Nat.le_refl _)) (by rfl) T.g_reader T.F_reader.kp T.b_reader .nil pass0 (pa_cons (pv 1) (pa_cons (pv 2) (pa_cons (pv 3) (pa_cons pe_int pa_nil))))))
      (C8.pss_cut (ps_if (pt_cmpR op_eq (pe_call (ok_take T) (hr.mono (by first | decide | exact Nat.le_refl _)) (by rfl) T.g_take T.F_take.kp T.b_take .nil pass0 (pa_cons (pv 1) (pa_cons pe_int pa_nil))) pe_int (nomark _)) (pss_one (ps_set (i := 4) sc_law.nd rfl (.inl rfl) (pe_call (ok_wide_reader T) (hr.mono (by first | decide | exact Nat.le_refl _)) (by rfl) T.g_wide_reader T.F_wide_reader.kp T.b_wide_reader .nil pass0 (pa_cons (pv 1) (pa_cons (pv 2) (pa_cons (pv 3) (pa_cons (pe_op op_add pe_int (pe_call (ok_take T) (hr.mono (by first | decide | exact Nat.le_refl _)) (by rfl) T.g_take T.F_take.kp T.b_take .nil pass0 (pa_cons (pv 1) (pa_cons pe_int pa_nil)))) pa_nil))))))) pss_nil)
      (pss_cons (ps_set (i := 5) sc_law.nd rfl (.inl rfl) (pe_call (ok_pick T) (hr.mono (by first | decide | exact Nat.le_refl _)) (by rfl) T.g_pick T.F_pick.kp T.b_pick .nil pass0 (pa_cons (pv 1) (pa_cons (pe_lst (pa_cons (pv 4) (pa_cons (pe_call (ok_reader T) (hr.mono (by first | decide | exact Nat.le_refl _)) (by rfl) T.g_reader T.F_reader.kp T.b_reader .nil pass0 (pa_cons (pv 1) (pa_cons (pv 2) (pa_cons (pv 3) (pa_cons pe_int pa_nil))))) pa_nil))) pa_nil))))
      (pss_cons (ps_set (i := 6) sc_law.nd rfl (.inl rfl) (pe_lst (pa_cons (pe_call (ok_reader_of T) (hr.mono (by first | decide | exact Nat.le_refl _)) (by rfl) T.g_reader_of T.F_reader_of.kp T.b_reader_of .nil pass0 (pa_cons (pv 4) pa_nil)) (pa_cons (pe_call (ok_reader_of T) (hr.mono (by first | decide | exact Nat.le_refl _)) (by rfl) T.g_reader_of T.F_reader_of.kp T.b_reader_of .nil pass0 (pa_cons (pv 5) pa_nil)) pa_nil))))
      (C8.pss_cut (ps_if (PW.pt (pw_and (pt_val (pe_call (ok_sameB T) (hr.mono (by first | decide | exact Nat.le_refl _)) (by rfl) T.g_same T.F_same.kp T.b_same .nil pass0 (pa_cons (pv 4) (pa_cons (pv 5) pa_nil)))) (pw_and1 (pt_cmpR op_eq (pe_call (ok_take T) (hr.mono (by first | decide | exact Nat.le_refl _)) (by rfl) T.g_take T.F_take.kp T.b_take .nil pass0 (pa_cons (pv 1) (pa_cons pe_int pa_nil))) pe_int (nomark _))))) (pss_one (ps_asg (pe_ix ix_list (pv 6) pe_int (fun _ _ => rfl)) (pg_sub (pv 6) pe_int set_list))) pss_nil)
      (pss_cons (ps_set (i := 7) sc_law.nd rfl (.inl rfl) (pe_lst (pa_cons (pe_lst (pa_cons (pv 4) (pa_cons (pe_make T.M_Session (ok_Session___init__ T) (hr.mono (by first | decide | exact Nat.le_refl _)) (by rfl) T.mg_Session T.kb_Session_0 T.kr_Session_0 pass0 (pa_cons (pe_ix ix_list (pv 6) pe_int (fun _ _ => rfl)) pa_nil)) (pa_cons (pe_lst pa_nil) (pa_cons pe_bl pa_nil))))) (pa_cons (pe_lst (pa_cons (pv 5) (pa_cons (pe_make T.M_Session (ok_Session___init__ T) (hr.mono (by first | decide | exact Nat.le_refl _)) (by rfl) T.mg_Session T.kb_Session_0 T.kr_Session_0 pass0 (pa_cons (pe_ix ix_list (pv 6) pe_int (fun _ _ => rfl)) pa_nil)) (pa_cons (pe_lst pa_nil) (pa_cons pe_bl pa_nil))))) pa_nil))))
      (pss_cons (ps_set (i := 8) sc_law.nd rfl (.inl rfl) (pe_call (ok_between T) (hr.mono (by first | decide | exact Nat.le_refl _)) (by rfl) T.g_between T.F_between.kp T.b_between .nil pass0 (pa_cons (pv 1) (pa_cons pe_int (pa_cons pe_int pa_nil)))))
      (C8.pss_cut (ps_if (pt_cmpR op_eq (pe_call (ok_take T) (hr.mono (by first | decide | exact Nat.le_refl _)) (by rfl) T.g_take T.F_take.kp T.b_take .nil pass0 (pa_cons (pv 1) (pa_cons pe_int pa_nil))) pe_int (nomark _)) (pss_one (ps_set (i := 8) sc_law.nd rfl (.inl rfl) pe_int)) pss_nil)
      (pss_cons (ps_set (i := 9) sc_law.nd rfl (.inl rfl) (pe_lst pa_nil))
      (pss_cons (ps_set (i := 10) sc_law.nd rfl (.inl rfl) (pe_cmpR op_eq (pe_call (ok_take T) (hr.mono (by first | decide | exact Nat.le_refl _)) (by rfl) T.g_take T.F_take.kp T.b_take .nil pass0 (pa_cons (pv 1) (pa_cons pe_int pa_nil))) pe_int (nomark _)))
      (pss_cons (ps_for PassesOwn.never rfl (pi_range1 (by rfl) T.z_range (pa_cons pe_int pa_nil)) (pg_name (i := 11) sc_law.nd rfl (.inl rfl)) (pss_cons (ps_for PassesOwn.never rfl (pi_range1 (by rfl) T.z_range (pa_cons (pv 8) pa_nil)) (pg_name (i := 12) sc_law.nd rfl (.inl rfl)) (C8.pss_cut (ps_if (PW.pt (pw_or (pt_cmpR op_eq (pv 11) pe_int (nomark _)) (pw_or1 (pt_not (pt_val (pv 10)))))) (pss_cons (ps_set (i := 13) sc_law.nd rfl (.inl rfl) (pe_callTy call_int1 (by rfl) T.z_int (by decide +kernel) (pa_cons (pe_cmpR op_eq (pe_call (ok_take T) (hr.mono (by first | decide | exact Nat.le_refl _)) (by rfl) T.g_take T.F_take.kp T.b_take .nil pass0 (pa_cons (pv 1) (pa_cons pe_int pa_nil))) pe_int (nomark _)) pa_nil)))
      (pss_one (ps_expr (pe_bm PySem.F.plainAttrs_list PySem.F.slot_list_append PySem.F.type_list_append mt_append (pv 9) (pa_cons (pe_tup (pa_cons (pv 13) (pa_cons (pe_call (ok_deed T) (hr.mono (by first | decide | exact Nat.le_refl _)) (by rfl) T.g_deed T.F_deed.kp T.b_deed .nil pass0 (pa_cons (pv 1) (pa_cons (pe_ix ix_list (pv 7) (pv 13) (fun _ _ => rfl)) pa_nil))) pa_nil))) pa_nil))))) pss_nil)
      (pss_cons (ps_set (i := 14) sc_law.nd rfl (.inl rfl) (pe_ix ix_list (pv 9) (pe_op op_add (pv 12) (pe_op op_mul (pv 8) (pe_callTy call_int1 (by rfl) T.z_int (by decide +kernel) (pa_cons (pe_and (pe_cmpR op_eq (pv 11) pe_int (nomark _)) (pe_one (pe_not (pv 10)))) pa_nil)))) (fun _ _ => rfl)))
      (pss_one (ps_if (pt_not (pt_val (pe_call (ok_run T) (hr.mono (by first | decide | exact Nat.le_refl _)) (by rfl) T.g_run T.F_run.kp T.b_run .nil pass0 (pa_cons (pv 7) (pa_cons (pe_ix ix_tup (pv 14) pe_int (fun _ _ => rfl)) (pa_cons (pe_ix ix_tup (pv 14) pe_int (fun _ _ => rfl)) (pa_cons (pe_or (pe_cmpR op_lt (pv 8) pe_int (nomark _)) (pe_one (pe_cmpR op_eq (pe_op op_mod (pe_callTy call_int1 (by rfl) T.z_int (by decide +kernel) (pa_cons (pv 12) pa_nil)) pe_int) pe_int (nomark _)))) pa_nil))))))) (pss_one (ps_ret pe_bl)) pss_nil)))))
      (pss_one (ps_for PassesOwn.never rfl (pi_list (pe_call (ok_turned T) (hr.mono (by first | decide | exact Nat.le_refl _)) (by rfl) T.g_turned T.F_turned.kp T.b_turned .nil pass0 (pa_cons (pv 1) (pa_cons (pe_lst (pa_cons pe_int (pa_cons pe_int pa_nil))) pa_nil)))) (pg_name (i := 13) sc_law.nd rfl (.inl rfl)) (pss_one (ps_if (pt_not (pt_val (pe_call (ok_unwound T) (hr.mono (by first | decide | exact Nat.le_refl _)) (by rfl) T.g_unwound T.F_unwound.kp T.b_unwound .nil pass0 (pa_cons (pv 1) (pa_cons (pv 7) (pa_cons (pv 13) pa_nil)))))) (pss_one (ps_ret pe_bl)) pss_nil))))))
      (pss_cons (ps_if (pt_not (pt_val (pe_call (ok_sameB T) (hr.mono (by first | decide | exact Nat.le_refl _)) (by rfl) T.g_same T.F_same.kp T.b_same .nil pass0 (pa_cons (pe_call (ok_reader_parts_of T) (hr.mono (by first | decide | exact Nat.le_refl _)) (by rfl) T.g_reader_parts_of T.F_reader_parts_of.kp T.b_reader_parts_of .nil pass0 (pa_cons (pe_ix ix_list (pv 6) pe_int (fun _ _ => rfl)) pa_nil)) (pa_cons (pv 4) pa_nil))))) (pss_one (ps_ret pe_bl)) pss_nil)
      (pss_one (ps_ret (pe_call (ok_sameB T) (hr.mono (by first | decide | exact Nat.le_refl _)) (by rfl) T.g_same T.F_same.kp T.b_same .nil pass0 (pa_cons (pe_call (ok_reader_parts_of T) (hr.mono (by first | decide | exact Nat.le_refl _)) (by rfl) T.g_reader_parts_of T.F_reader_parts_of.kp T.b_reader_parts_of .nil pass0 (pa_cons (pe_ix ix_list (pv 6) pe_int (fun _ _ => rfl)) pa_nil)) (pa_cons (pv 5) pa_nil)))))))))))))))))))), ?_⟩
    clear s
    refine ⟨_, rfl, sc, ns, rfl, hS, hlen, fun a ca H1 s1 na S1 => ?_⟩
    have g1 := s1.good good
    have ma : a ∈ [a] := List.mem_singleton.mpr rfl
    refine ⟨_, rfl, a, ca, 3, rfl, S1, fun r H2 ar B2 S2 => ?_⟩
    refine ⟨_, rfl, a, ca, 3, rfl, S2, fun z H3 az B3 S3 => ?_⟩
    have g3 := B3.good (B2.good g1)
    refine ⟨_, rfl, _, rfl, _, rfl, a, ca, r, z, 4, rfl, S3, ar, az, by decide, by decide, fun p1 M1 F1 f1 mv1 fin1 H4 gr1 sh1 _ B4 S4 _ rp1 => ?_⟩
    have D4 := rp1 [a] fun c mc => by rw [List.mem_singleton.mp mc]; exact S3.some.1
    have g4 := B4.good g3
    clear rp1 B4 B3 B2 S1 S2 S3 g1 g3
    refine ⟨fun σ' G => ∃ (p1 M1 F1 : Addr) (f1 : Str) (mv1 : Grid) (fin1 : List (Option Str)), σ' = [some (.ref sc), some (.ref a), some (.str r), some (.str z), some (.ref p1), none, none, none, none, none, none, none, none, none, none] ∧ Sto G a ca ∧ GoodR r z f1 mv1 fin1 ∧ RP [a] G p1 r z f1 mv1 fin1 M1 F1 ∧ Good G, ?_, ?_⟩
    · refine ⟨_, rfl, a, ca, 8, rfl, S4, by decide, fun d H6 _ _ B6 S6 => ⟨rfl, _, rfl, ite2 (fun _ => ?_) (fun _ => ?_)⟩⟩
      · refine ⟨_, rfl, _, rfl, _, rfl, _, rfl, a, ca, 64, rfl, S6, by decide, fun e H7 e0 e1 B7 S7 => ?_⟩
        have e64 : e < 64 := by omega
        obtain ⟨e, rfl⟩ := Int.eq_ofNat_of_zero_le e0
        refine ⟨_, _, rfl, rfl, a, ca, r, z, 1 + e, by rw [Int.natCast_add]; rfl, S7, ar, az, by omega, by omega, fun p M F f mv fin H8 gr sh _ B8 S8 _ rp => ?_⟩
        exact ⟨p, M, F, f, mv, fin, rfl, S8, gr, rp [a] (fun c mc => by rw [List.mem_singleton.mp mc]; exact S7.some.1), B8.good (B7.good (B6.good g4))⟩
      · exact ⟨p1, M1, F1, f1, mv1, fin1, rfl, S6, gr1, D4.but B6 ma S4.ntup, B6.good g4⟩
    clear gr1 sh1 D4 g4 S4
    rintro σ' H5 ⟨p1, M1, F1, f1, mv1, fin1, rfl, S5, gr1, D5, g5⟩
    refine ⟨_, rfl, _, rfl, _, rfl, _, rfl, _, rfl, a, ca, r, z, 3, rfl, S5, ar, az, by decide, by decide, fun p2 M2 F2 f2 mv2 fin2 H6 gr2 _ _ B6 S6 _ rp2 => ⟨by show 2 ≤ sizeLine; decide, fun PL nPL => ?_⟩⟩
    have D26 := rp2 [a] fun c mc => by rw [List.mem_singleton.mp mc]; exact S5.some.1
    have D16 := D5.but B6 ma S5.ntup
    have g6 := B6.good g5
    have kP := same_new (o := .lst [.ref p1, .ref p2]) nPL
    refine ⟨a, ca, S6.same kP, .inr ⟨PL, _, rfl, (S6.ne nPL).1, upd_same, by show 0 < 2; decide, by show 2 ≤ 4000000; decide, fun x H7 mx B7 S7 => ?_⟩⟩
    have BP := (But.same kP : But a H6 _).trans B7
    have D17 := D16.but BP ma S6.ntup
    have D27 := D26.but BP ma S6.ntup
    have g7 := BP.good g6
    obtain ⟨q2, N2, E2, k2, nv2, gin2, rfl, hr2, C27⟩ : ∃ (q N E : Addr) (f : Str) (mv : Grid) (fin : List (Option Str)), x = .ref q ∧ GoodR r z f mv fin ∧ RP [a] H7 q r z f mv fin N E := by
      simp only [List.mem_cons, List.not_mem_nil, or_false] at mx
      rcases mx with rfl | rfl
      · exact ⟨_, _, _, _, _, _, rfl, gr1, D17⟩
      · exact ⟨_, _, _, _, _, _, rfl, gr2, D27⟩
    clear D27 BP g6 D16 D26 kP nPL rp2 B6 B7 S6 S5 D5 g5 gr2 mx
    -- the readers
    refine ⟨_, rfl, p1, r, z, f1, M1, F1, mv1, fin1, [a], rfl, D17, gr1, g7, fun m1 dx1 M1' F1' H8 s8 nm1 hm1 gn1 nF1 hF1 => ?_⟩
    have A8 : RA T.C_Reader [a] H8 m1 r z f1 mv1 fin1 dx1 M1' F1' := ⟨hm1, gn1.grid (fun c mc => by rw [List.mem_singleton.mp mc]; exact S7.some.1), hF1, fun mc => by rw [List.mem_singleton.mp mc] at nF1; exact S7.some.1 nF1⟩
    have S8 := S7.same s8
    refine ⟨_, rfl, q2, r, z, k2, N2, E2, nv2, gin2, [a], rfl, C27.same s8, hr2, s8.good g7, fun m2 dx2 M2' F2' H9 s9 nm2 hm2 gn2 nF2 hF2 => ⟨by show 2 ≤ sizeLine; decide, fun RL nRL => ?_⟩⟩
    have A29 : RA T.C_Reader [a] H9 m2 r z k2 nv2 gin2 dx2 M2' F2' := ⟨hm2, gn2.grid (fun c mc => by rw [List.mem_singleton.mp mc]; exact S8.some.1), hF2, fun mc => by rw [List.mem_singleton.mp mc] at nF2; exact S8.some.1 nF2⟩
    have kR := same_new (o := .lst [.ref m1, .ref m2]) nRL
    have s79 := s8.trans s9
    have S9 := S8.same s9
    have xRL := S9.ne nRL
    have D1 := ((D17.same s79).more nRL).same kR
    have D2 := ((C27.same s79).more nRL).same kR
    have A1 := ((A8.same s9).more nRL).same kR
    have A2 := (A29.more nRL).same kR
    have S10 := S9.same kR
    have g10 := kR.good (s79.good g7)
    have hRL : (upd H9 RL (.lst [.ref m1, .ref m2])) RL = some (.lst [.ref m1, .ref m2]) := upd_same
    generalize upd H9 RL (.lst [.ref m1, .ref m2]) = H10 at D1 D2 A1 A2 S10 g10 hRL ⊢
    clear kR s79 S9 S8 S7 A29 A8 gn1 gn2 hm1 hm2 hF1 hF2 nF1 nF2 nm1 nm2 s8 s9 D17 C27 g7 nRL
    have mR : RL ∈ [RL, a] := List.mem_cons_self ..
    have mA : a ∈ [RL, a] := List.mem_cons_of_mem _ (List.mem_singleton.mpr rfl)
    have ntR : ∀ zs, H10 RL ≠ some (.tup zs) := fun zs e => by rw [hRL] at e; cases e
    refine ⟨fun σ' G => ∃ (m2 dx2 M2' F2' N2 E2 : Addr) (k2 : Str) (nv2 : Grid) (gin2 : List (Option Str)), σ' = [some (.ref sc), some (.ref a), some (.str r), some (.str z), some (.ref p1), some (.ref q2), some (.ref RL), none, none, none, none, none, none, none, none] ∧ Sto G a ca ∧ GoodR r z k2 nv2 gin2 ∧ RP [RL, a] G p1 r z f1 mv1 fin1 M1 F1 ∧ RP [RL, a] G q2 r z k2 nv2 gin2 N2 E2 ∧ RA T.C_Reader [RL, a] G m1 r z f1 mv1 fin1 dx1 M1' F1' ∧ RA T.C_Reader [RL, a] G m2 r z k2 nv2 gin2 dx2 M2' F2' ∧ G RL = some (.lst [.ref m1, .ref m2]) ∧ Good G, ?_, ?_⟩
    · refine ⟨_, rfl, _, rfl, .ref p1, .ref q2, rfl, (rp_deep (n := 5) gr1 D1 mA S10.ntup).toN, (rp_deep (n := 5) hr2 D2 mA S10.ntup).toN, fun b hb => ⟨b, rfl, ?_⟩⟩
      obtain ⟨zs10, ha10⟩ := sto_lst S10
      cases b with
      | false => exact iteN rfl (iteN rfl ⟨m2, dx2, M2', F2', N2, E2, k2, nv2, gin2, rfl, S10, hr2, D1, D2, A1, A2, hRL, g10⟩)
      | true =>
        have sm := hb.mp rfl
        obtain ⟨_, N3, E3, e3, R3⟩ := rp_of_samed (n := 5) (L' := [RL, a]) (SameD.sym sm) D1 fun b mb => by
          simp only [List.mem_cons, List.not_mem_nil, or_false] at mb
          rcases mb with rfl | rfl
          · exact rp_deep (n := 5) hr2 D2 mR ntR
          · exact rp_deep (n := 5) hr2 D2 mA S10.ntup
        cases e3
        refine iteC rfl ⟨_, rfl, a, ca, 2, rfl, S10, by decide, fun d H11 _ _ B11 S11 => ⟨rfl, _, rfl, ite2 (fun _ => ?_) (fun _ => ?_)⟩⟩
        · have hRL' := B11 _ _ xRL.1 hRL
          refine ⟨_, rfl, RL, _, _, _, rfl, rfl, .inl (.inl hRL'), atI_nat (j := 0) rfl, _, rfl, RL, _, 1, 1, rfl, rfl, hRL', rfl, ?_⟩
          have Bx : But RL H11 (upd H11 RL (.lst ([V.ref m1, .ref m2].set 1 (.ref m1)))) := But.put hRL'
          have ntR' : ∀ zs, H11 RL ≠ some (.tup zs) := fun zs e => by rw [hRL'] at e; cases e
          have A1' := (A1.but B11 mA ha10).but Bx mR hRL'
          exact ⟨m1, dx1, M1', F1', N3, E3, f1, mv1, fin1, rfl, S11.put xRL, gr1, (D1.but B11 mA S10.ntup).but Bx mR ntR', (R3.but B11 mA S10.ntup).but Bx mR ntR', A1', A1', upd_same, Bx.good (B11.good g10)⟩
        · exact ⟨m2, dx2, M2', F2', N2, E2, k2, nv2, gin2, rfl, S11, hr2, D1.but B11 mA S10.ntup, D2.but B11 mA S10.ntup, A1.but B11 mA ha10, A2.but B11 mA ha10, B11 _ _ xRL.1 hRL, B11.good g10⟩
    clear hr2 D1 D2 A1 A2 S10 g10 hRL ntR
    rintro σ' Hr ⟨m2, dx2, M2', F2', M2, F2, f2, mv2, fin2, rfl, Sr, gr2, D1, D2, A1, A2, hRL, gG⟩
    -- the worlds
    obtain ⟨Wd, eW⟩ : ∃ Wd : List Addr → Hp → Prop, Wd = fun L G => RP L G p1 r z f1 mv1 fin1 M1 F1 ∧ RP L G q2 r z f2 mv2 fin2 M2 F2 ∧ RA T.C_Reader L G m1 r z f1 mv1 fin1 dx1 M1' F1' ∧ RA T.C_Reader L G m2 r z f2 mv2 fin2 dx2 M2' F2' := ⟨_, rfl⟩
    have wsame : ∀ {L G G'}, Wd L G → Same G G' → Wd L G' := fun {L G G'} h k => by
      rw [eW] at h ⊢
      obtain ⟨h1, h2, h3, h4⟩ := h
      exact ⟨h1.same k, h2.same k, h3.same k, h4.same k⟩
    have wmore : ∀ {L W G}, Wd L G → G W = none → Wd (W :: L) G := fun {L W G} h n => by
      rw [eW] at h ⊢
      obtain ⟨h1, h2, h3, h4⟩ := h
      exact ⟨h1.more n, h2.more n, h3.more n, h4.more n⟩
    have W0 : Wd [RL, a] Hr := by
      rw [eW]
      exact ⟨D1, D2, A1, A2⟩
    have old : ∀ {G : Hp} {o : HO} {c : Addr}, G c = some o → G c ≠ none := fun h e => by rw [h] at e; cases e
    have nd0 : [RL, ca, a].Nodup ∧ ∀ c ∈ [RL, ca, a], Hr c ≠ none := ⟨by
      obtain ⟨_, _, _, _, _, _, _, _, n4⟩ := Sr
      simp [xRL.1, xRL.2, n4], fun c m => by
      simp only [List.mem_cons, List.not_mem_nil, or_false] at m
      rcases m with rfl | rfl | rfl
      · exact old hRL
      · exact Sr.some.2
      · exact Sr.some.1⟩
    refine ⟨_, rfl, _, rfl, RL, _, _, _, rfl, rfl, .inl (.inl hRL), atI_nat (j := 0) rfl, fun s1 d1 na1 nb1 nc1 => ?_⟩
    have nm1 : (upd Hr d1 (.own s1)) s1 = none := by
      rw [upd_ne (Ne.symm nc1)]
      exact na1
    have t1 : Same Hr (upd (upd Hr d1 (.own s1)) s1 (.ins T.C_Session d1 [])) := (same_new (o := .own s1) nb1).trans (same_new (o := .ins T.C_Session d1 []) nm1)
    refine ⟨s1, d1, m1, dx1, M1', F1', r, z, f1, mv1, fin1, _, rfl, upd_same, A1.same t1, gr1.n64, fun Ma1 Fa1 P1 S1 Ha b1 se1 nP1 nS1 => ⟨rfl, ?_⟩⟩
    have k1 : Same Hr Ha := But.made na1 nb1 nc1 b1
    have nP1' := t1.free nP1
    have nS1' := t1.free nS1
    have Wa := wsame (wmore (wmore W0 nS1') nP1') k1
    have Sa := Sr.same k1
    have hRLa := k1 _ _ hRL
    have X1a := se1 [a] (fun c mc => by rw [List.mem_singleton.mp mc]; exact (Sr.same t1).some.1)
    have nda : [P1, S1, RL, ca, a].Nodup ∧ ∀ c ∈ [P1, S1, RL, ca, a], Ha c ≠ none := by
      have h := nd_more nd0 nS1' k1 (old X1a.hs)
      refine ⟨List.nodup_cons.mpr ⟨fun m => ?_, h.1⟩, fun c m => ?_⟩
      · rcases List.mem_cons.mp m with e | m
        · exact X1a.ne e
        · exact nd0.2 _ m nP1'
      · rcases List.mem_cons.mp m with rfl | m
        · obtain ⟨xs, e, _⟩ := X1a.hp
          exact old e
        · exact h.2 c m
    clear k1 t1 b1 nP1 nS1 nP1' nS1' nm1 nd0 W0 Sr hRL gG D1 D2 A1
    refine ⟨by show 0 ≤ sizeLine; decide, fun B1 nB1 => ⟨by show 4 ≤ sizeLine; decide, fun W1 nW1 => ?_⟩⟩
    have kb1 := same_new (o := .lst []) nB1
    have kw1 := same_new (o := .lst [.ref p1, .ref s1, .ref B1, .bl false]) nW1
    have hB1 := kw1 _ _ (upd_same (H := Ha) (a := B1) (o := .lst []))
    have hW1 : (upd (upd Ha B1 (.lst [])) W1 (.lst [.ref p1, .ref s1, .ref B1, .bl false])) W1 = some (.lst [.ref p1, .ref s1, .ref B1, .bl false]) := upd_same
    have Wb := wsame (wmore (wsame (wmore Wa nB1) kb1) nW1) kw1
    have X1b := ((X1a.more nB1).same kb1 |>.more nW1).same kw1
    have ndb := nd_more (nd_more nda nB1 kb1 (old upd_same)) nW1 kw1 (old hW1)
    have Sb := (Sa.same kb1).same kw1
    have hRLb := kw1 _ _ (kb1 _ _ hRLa)
    generalize upd (upd Ha B1 (.lst [])) W1 (.lst [.ref p1, .ref s1, .ref B1, .bl false]) = Hb at kw1 hB1 hW1 Wb X1b ndb Sb hRLb ⊢
    clear kb1 kw1 nB1 nW1 Wa X1a nda Sa hRLa
    have Wb' := Wb
    rw [eW] at Wb'
    refine ⟨_, rfl, _, rfl, RL, _, _, _, rfl, rfl, .inl (.inl hRLb), atI_nat (j := 1) rfl, fun s2 d2 na2 nb2 nc2 => ?_⟩
    have nm2 : (upd Hb d2 (.own s2)) s2 = none := by
      rw [upd_ne (Ne.symm nc2)]
      exact na2
    have t2 : Same Hb (upd (upd Hb d2 (.own s2)) s2 (.ins T.C_Session d2 [])) := (same_new (o := .own s2) nb2).trans (same_new (o := .ins T.C_Session d2 []) nm2)
    refine ⟨s2, d2, m2, dx2, M2', F2', r, z, f2, mv2, fin2, _, rfl, upd_same, Wb'.2.2.2.same t2, gr2.n64, fun Ma2 Fa2 P2 S2 Hc b2 se2 nP2 nS2 => ⟨rfl, ?_⟩⟩
    have k2 : Same Hb Hc := But.made na2 nb2 nc2 b2
    have nP2' := t2.free nP2
    have nS2' := t2.free nS2
    have Wc_ := wsame (wmore (wmore Wb nS2') nP2') k2
    have Sc := Sb.same k2
    have hRLc := k2 _ _ hRLb
    have hB1c := k2 _ _ hB1
    have hW1c := k2 _ _ hW1
    have e12 : s1 ≠ s2 := fun e => by rw [← e, X1b.ins] at na2; cases na2
    have X1c := ((X1b.more nS2').more nP2').same k2
    have X2c := se2 [W1, B1, P1, S1, a] (fun c mc e => ndb.2 c (in_out (L := [W1, B1, P1, S1, RL, ca, a]) [0, 1, 2, 3, 6] rfl c mc) (t2.free e))
    have ndc : [P2, S2, W1, B1, P1, S1, RL, ca, a].Nodup ∧ ∀ c ∈ [P2, S2, W1, B1, P1, S1, RL, ca, a], Hc c ≠ none := by
      have h := nd_more ndb nS2' k2 (old X2c.hs)
      refine ⟨List.nodup_cons.mpr ⟨fun m => ?_, h.1⟩, fun c m => ?_⟩
      · rcases List.mem_cons.mp m with e | m
        · exact X2c.ne e
        · exact ndb.2 _ m nP2'
      · rcases List.mem_cons.mp m with rfl | m
        · obtain ⟨xs, e, _⟩ := X2c.hp
          exact old e
        · exact h.2 c m
    clear k2 t2 b2 nP2 nS2 nP2' nS2' nm2 Wb Wb' Sb hRLb hB1 hW1 X1b ndb
    refine ⟨by show 0 ≤ sizeLine; decide, fun B2 nB2 => ⟨by show 4 ≤ sizeLine; decide, fun W2 nW2 => ⟨by show 2 ≤ sizeLine; decide, fun X nX => ?_⟩⟩⟩
    have kb2 := same_new (o := .lst []) nB2
    have kw2 := same_new (o := .lst [.ref q2, .ref s2, .ref B2, .bl false]) nW2
    have kx := same_new (o := .lst [.ref W1, .ref W2]) nX
    have hB2 := kx _ _ (kw2 _ _ (upd_same (H := Hc) (a := B2) (o := .lst [])))
    have hW2 := kx _ _ (upd_same (H := upd Hc B2 (.lst [])) (a := W2) (o := .lst [.ref q2, .ref s2, .ref B2, .bl false]))
    have hX : (upd (upd (upd Hc B2 (.lst [])) W2 (.lst [.ref q2, .ref s2, .ref B2, .bl false])) X (.lst [.ref W1, .ref W2])) X = some (.lst [.ref W1, .ref W2]) := upd_same
    have Wx := wsame (wmore (wsame (wmore (wsame (wmore Wc_ nB2) kb2) nW2) kw2) nX) kx
    have X1x := (((X1c.more nB2).same kb2 |>.more nW2).same kw2 |>.more nX).same kx
    have X2x := (((X2c.more nB2).same kb2 |>.more nW2).same kw2 |>.more nX).same kx
    have ndx := nd_more (nd_more (nd_more ndc nB2 kb2 (old upd_same)) nW2 kw2 (old upd_same)) nX kx (old hX)
    have Sx := ((Sc.same kb2).same kw2).same kx
    have hRLx := kx _ _ (kw2 _ _ (kb2 _ _ hRLc))
    have hB1x := kx _ _ (kw2 _ _ (kb2 _ _ hB1c))
    have hW1x := kx _ _ (kw2 _ _ (kb2 _ _ hW1c))
    generalize upd (upd (upd Hc B2 (.lst [])) W2 (.lst [.ref q2, .ref s2, .ref B2, .bl false])) X (.lst [.ref W1, .ref W2]) = Hx at kx hB2 hW2 hX Wx X1x X2x ndx Sx hRLx hB1x hW1x ⊢
    clear kb2 kw2 kx nB2 nW2 nX Wc_ X1c X2c ndc Sc hRLc hB1c hW1c
    have nd := ndx.1
    obtain ⟨w1, ew1⟩ : ∃ w : Wc, (w.W = W1 ∧ w.P = P1 ∧ w.S = S1 ∧ w.s = s1 ∧ w.p = p1) ∧ (w.f = f1 ∧ w.mv = mv1 ∧ w.fin = fin1) ∧ WldA T.C_Session r z [W2, P2, S2, a] Hx w ⟨B1, [], [], [], [], 0, false⟩ := ⟨⟨W1, p1, s1, f1, mv1, fin1, M1, F1, d1, m1, Ma1, Fa1, P1, S1⟩, ⟨rfl, rfl, rfl, rfl, rfl⟩, ⟨rfl, rfl, rfl⟩, by
      rw [eW] at Wx
      exact ⟨hW1x, nd_out nd 5 [1, 3, 4, 11] rfl rfl (by decide), Wx.1.weak (in_out [5, 7, 8, 1, 3, 4, 10] rfl), X1x.weak (in_out [5, 1, 3, 4, 7] rfl), gr1, hB1x, nd_out nd 6 [5, 7, 8, 1, 3, 4, 11] rfl rfl (by decide), .nil, .nil⟩⟩
    obtain ⟨w2, ew2⟩ : ∃ w : Wc, (w.W = W2 ∧ w.P = P2 ∧ w.S = S2 ∧ w.s = s2 ∧ w.p = q2) ∧ (w.f = f2 ∧ w.mv = mv2 ∧ w.fin = fin2) ∧ WldA T.C_Session r z [W1, P1, S1, a] Hx w ⟨B2, [], [], [], [], 0, false⟩ := ⟨⟨W2, q2, s2, f2, mv2, fin2, M2, F2, d2, m2, Ma2, Fa2, P2, S2⟩, ⟨rfl, rfl, rfl, rfl, rfl⟩, ⟨rfl, rfl, rfl⟩, by
      rw [eW] at Wx
      exact ⟨hW2, nd_out nd 1 [5, 7, 8, 11] rfl rfl (by decide), Wx.2.1.weak (in_out [1, 3, 4, 5, 7, 8, 10] rfl), X2x.weak (in_out [1, 3, 5, 6, 7] rfl), gr2, hB2, nd_out nd 2 [1, 3, 4, 5, 7, 8, 11] rfl rfl (by decide), .nil, .nil⟩⟩
    have AX : RA T.C_Reader [W1, P1, S1, W2, P2, S2, a] Hx m1 r z f1 mv1 fin1 dx1 M1' F1' ∧ RA T.C_Reader [W1, P1, S1, W2, P2, S2, a] Hx m2 r z f2 mv2 fin2 dx2 M2' F2' := by
      rw [eW] at Wx
      have k : ∀ y ∈ [W1, P1, S1, W2, P2, S2, a], y ∈ [X, W2, B2, P2, S2, W1, B1, P1, S1, RL, a] := in_out [5, 7, 8, 1, 3, 4, 10] rfl
      exact ⟨⟨Wx.2.2.1.ins, Wx.2.2.1.gr.weak k, Wx.2.2.1.hf, fun m => Wx.2.2.1.nf (k _ m)⟩, ⟨Wx.2.2.2.ins, Wx.2.2.2.gr.weak k, Wx.2.2.2.hf, fun m => Wx.2.2.2.nf (k _ m)⟩⟩
    clear Wx X1x X2x hB1x hB2 hW1x hW2 eW wsame wmore ndx
    obtain ⟨⟨rfl, rfl, rfl, rfl, rfl⟩, ⟨rfl, rfl, rfl⟩, c1x⟩ := ew1
    obtain ⟨⟨rfl, rfl, rfl, rfl, rfl⟩, ⟨rfl, rfl, rfl⟩, c2x⟩ := ew2
    have Xa : X ≠ a := nd_ne nd 0 11 rfl rfl (by decide)
    have RLa : RL ≠ a := nd_ne nd 9 11 rfl rfl (by decide)
    obtain ⟨Bd, eB⟩ : ∃ Bd : List Addr → Ws → Ws → Hp → Prop, Bd = fun D v1 v2 G => WldA T.C_Session r z (D ++ [w2.W, w2.P, w2.S, a]) G w1 v1 ∧ WldA T.C_Session r z (D ++ [w1.W, w1.P, w1.S, a]) G w2 v2 ∧ G X = some (.lst [.ref w1.W, .ref w2.W]) ∧ G RL = some (.lst [.ref m1, .ref m2]) ∧ RA T.C_Reader (D ++ [w1.W, w1.P, w1.S, w2.W, w2.P, w2.S, a]) G m1 r z w1.f w1.mv w1.fin dx1 M1' F1' ∧ RA T.C_Reader (D ++ [w1.W, w1.P, w1.S, w2.W, w2.P, w2.S, a]) G m2 r z w2.f w2.mv w2.fin dx2 M2' F2' ∧ Sto G a ca := ⟨_, rfl⟩
    have bsame : ∀ {D v1 v2 G G'}, Bd D v1 v2 G → Same G G' → Bd D v1 v2 G' := fun {D v1 v2 G G'} h k => by
      rw [eB] at h ⊢
      obtain ⟨c1, c2, x0, l0, a1, a2, S0⟩ := h
      exact ⟨c1.same k, c2.same k, k _ _ x0, k _ _ l0, a1.same k, a2.same k, S0.same k⟩
    have bbut : ∀ {D v1 v2 G G'}, Bd D v1 v2 G → But a G G' → Sto G' a ca → Bd D v1 v2 G' := fun {D v1 v2 G G'} h B S' => by
      rw [eB] at h ⊢
      obtain ⟨c1, c2, x0, l0, a1, a2, S0⟩ := h
      obtain ⟨zs, ha⟩ := sto_lst S0
      exact ⟨c1.but B (by simp) ha, c2.but B (by simp) ha, B _ _ Xa x0, B _ _ RLa l0, a1.but B (by simp) ha, a2.but B (by simp) ha, S'⟩
    have B0 : Bd [] ⟨B1, [], [], [], [], 0, false⟩ ⟨B2, [], [], [], [], 0, false⟩ Hx := by
      rw [eB]
      exact ⟨c1x, c2x, hX, hRLx, AX.1, AX.2, Sx⟩
    have e12' := Ne.symm e12
    clear c1x c2x AX hX hRLx
    refine ⟨_, rfl, a, ca, 0, 7, rfl, Sx, by decide, fun m Hm m0 mle Bm Sm => ?_⟩
    have Bm' := bbut B0 Bm Sm
    clear B0 Bm Sx
    refine ⟨fun σ' G => ∃ (n : Nat), σ' = [some (.ref sc), some (.ref a), some (.str r), some (.str z), some (.ref w1.p), some (.ref w2.p), some (.ref RL), some (.ref X), some (.int (n : Int)), none, none, none, none, none, none] ∧ n ≤ 60 ∧ Bd [] ⟨B1, [], [], [], [], 0, false⟩ ⟨B2, [], [], [], [], 0, false⟩ G, ?_, ?_⟩
    · obtain ⟨m, rfl⟩ := Int.eq_ofNat_of_zero_le m0
      refine ⟨_, rfl, a, ca, 10, rfl, Sm, by decide, fun d G _ _ B S => ⟨rfl, _, rfl, ite2 (fun _ => ⟨60, rfl, by decide, bbut Bm' B S⟩) (fun _ => ⟨m, rfl, by omega, bbut Bm' B S⟩)⟩⟩
    clear Bm' Sm mle m0
    rintro σ' Hy ⟨n, rfl, n60, By⟩
    refine ⟨by show 0 ≤ sizeLine; decide, fun dl nD => ?_⟩
    have kd := same_new (o := .lst []) nD
    have hdl : (upd Hy dl (.lst [])) dl = some (.lst []) := upd_same
    have ex := By
    rw [eB] at ex
    obtain ⟨c1, c2, x0, l0, a10, a20, S0⟩ := ex
    have dout : dl ∉ [X, w2.W, w2.P, w2.S, w1.W, w1.P, w1.S, RL, ca, a] := fun m => by
      simp only [List.mem_cons, List.not_mem_nil, or_false] at m
      rcases m with e | e | e | e | e | e | e | e | e | e
      · rw [e, x0] at nD; cases nD
      · rw [e, c2.hW] at nD; cases nD
      · obtain ⟨xs, h, _⟩ := c2.se.hp; rw [e, h] at nD; cases nD
      · rw [e, c2.se.hs] at nD; cases nD
      · rw [e, c1.hW] at nD; cases nD
      · obtain ⟨xs, h, _⟩ := c1.se.hp; rw [e, h] at nD; cases nD
      · rw [e, c1.se.hs] at nD; cases nD
      · rw [e, l0] at nD; cases nD
      · exact S0.some.2 (by rw [← e]; exact nD)
      · exact S0.some.1 (by rw [← e]; exact nD)
    have Bz : Bd [dl] ⟨B1, [], [], [], [], 0, false⟩ ⟨B2, [], [], [], [], 0, false⟩ (upd Hy dl (.lst [])) := by
      rw [eB]
      exact ⟨(c1.more nD).same kd, (c2.more nD).same kd, kd _ _ x0, kd _ _ l0, (a10.more nD).same kd, (a20.more nD).same kd, S0.same kd⟩
    have Sz := S0.same kd
    generalize upd Hy dl (.lst []) = Hz at kd hdl Bz Sz ⊢
    clear c1 c2 x0 l0 a10 a20 S0 nD kd By
    simp only [List.mem_cons, List.not_mem_nil, or_false, not_or] at dout
    obtain ⟨dX, dW2, dP2, dS2, dW1, dP1, dS1, dR, dca, da⟩ := dout
    have pk : ∀ {x : Addr}, x ∉ [w1.W, w1.P, w1.S, w2.W, w2.P, w2.S, a] → (x ≠ w1.W ∧ x ≠ w1.P ∧ x ≠ w1.S ∧ x ≠ w2.W ∧ x ≠ w2.P ∧ x ≠ w2.S ∧ x ≠ a) := fun h => by
      simp only [List.mem_cons, List.not_mem_nil, or_false, not_or] at h
      exact h
    have pX := pk (nd_out nd 0 [5, 7, 8, 1, 3, 4, 11] rfl rfl (by decide))
    have pR := pk (nd_out nd 9 [5, 7, 8, 1, 3, 4, 11] rfl rfl (by decide))
    have pC := pk (nd_out nd 10 [5, 7, 8, 1, 3, 4, 11] rfl rfl (by decide))
    have a1W : a ∉ [w1.W, w1.P, w1.S] := nd_out nd 11 [5, 7, 8] rfl rfl (by decide)
    have a2W : a ∉ [w2.W, w2.P, w2.S] := nd_out nd 11 [1, 3, 4] rfl rfl (by decide)
    obtain ⟨Iv, eI⟩ : ∃ Iv : Ws → Ws → List (Int × Deed) → Hp → Prop, Iv = fun v1 v2 es G => Bd [dl] v1 v2 G ∧ ∃ ys, G dl = some (.lst ys) ∧ Paired (DeedAt [dl, w1.W, w1.P, w1.S, w2.W, w2.P, w2.S, a] G) ys es := ⟨_, rfl⟩
    have iw : ∀ {v1 v2 es G}, Iv v1 v2 es G → WldA T.C_Session r z [dl, w2.W, w2.P, w2.S, a] G w1 v1 ∧ WldA T.C_Session r z [dl, w1.W, w1.P, w1.S, a] G w2 v2 ∧ G X = some (.lst [.ref w1.W, .ref w2.W]) ∧ G RL = some (.lst [.ref m1, .ref m2]) ∧ RA T.C_Reader [dl, w1.W, w1.P, w1.S, w2.W, w2.P, w2.S, a] G m1 r z w1.f w1.mv w1.fin dx1 M1' F1' ∧ RA T.C_Reader [dl, w1.W, w1.P, w1.S, w2.W, w2.P, w2.S, a] G m2 r z w2.f w2.mv w2.fin dx2 M2' F2' ∧ Sto G a ca ∧ ∃ ys, G dl = some (.lst ys) ∧ Paired (DeedAt [dl, w1.W, w1.P, w1.S, w2.W, w2.P, w2.S, a] G) ys es := fun {v1 v2 es G} h => by
      rw [eI] at h
      obtain ⟨b, d⟩ := h
      rw [eB] at b
      obtain ⟨c1, c2, x0, l0, a1, a2, S0⟩ := b
      exact ⟨c1, c2, x0, l0, a1, a2, S0, d⟩
    have wi : ∀ {v1 v2 es G}, WldA T.C_Session r z [dl, w2.W, w2.P, w2.S, a] G w1 v1 ∧ WldA T.C_Session r z [dl, w1.W, w1.P, w1.S, a] G w2 v2 ∧ G X = some (.lst [.ref w1.W, .ref w2.W]) ∧ G RL = some (.lst [.ref m1, .ref m2]) ∧ RA T.C_Reader [dl, w1.W, w1.P, w1.S, w2.W, w2.P, w2.S, a] G m1 r z w1.f w1.mv w1.fin dx1 M1' F1' ∧ RA T.C_Reader [dl, w1.W, w1.P, w1.S, w2.W, w2.P, w2.S, a] G m2 r z w2.f w2.mv w2.fin dx2 M2' F2' ∧ Sto G a ca ∧ (∃ ys, G dl = some (.lst ys) ∧ Paired (DeedAt [dl, w1.W, w1.P, w1.S, w2.W, w2.P, w2.S, a] G) ys es) → Iv v1 v2 es G := fun {v1 v2 es G} h => by
      rw [eI, eB]
      obtain ⟨c1, c2, x0, l0, a1, a2, S0, d⟩ := h
      exact ⟨⟨c1, c2, x0, l0, a1, a2, S0⟩, d⟩
    have I0 : Iv ⟨B1, [], [], [], [], 0, false⟩ ⟨B2, [], [], [], [], 0, false⟩ [] Hz := by
      rw [eI]
      exact ⟨Bz, [], hdl, .nil⟩
    have isame : ∀ {v1 v2 es G G'}, Iv v1 v2 es G → Same G G' → Iv v1 v2 es G' := fun {v1 v2 es G G'} h k => by
      rw [eI] at h ⊢
      obtain ⟨b, ys, hd, pr⟩ := h
      exact ⟨bsame b k, ys, k _ _ hd, Paired.mapP pr fun _ _ h => h.same k⟩
    have ibut : ∀ {v1 v2 es G G'}, Iv v1 v2 es G → But a G G' → Sto G' a ca → Iv v1 v2 es G' := fun {v1 v2 es G G'} h k S' => by
      obtain ⟨_, _, _, _, _, _, S0, _⟩ := iw h
      obtain ⟨zs, ha⟩ := sto_lst S0
      rw [eI] at h ⊢
      obtain ⟨b, ys, hd, pr⟩ := h
      exact ⟨bbut b k S', ys, k _ _ da hd, Paired.mapP pr fun _ _ h => h.but k (by simp) ha⟩
    clear Bz hdl bsame bbut eB eI
    have pres : ∀ {v1 v2 es G}, Iv v1 v2 es G → ∀ c ∈ [dl, w1.W, w1.P, w1.S, w2.W, w2.P, w2.S, a], G c ≠ none := fun {v1 v2 es G} h c m e => by
      obtain ⟨c1, c2, x0, l0, a1, a2, S0, ys, hd, _⟩ := iw h
      simp only [List.mem_cons, List.not_mem_nil, or_false] at m
      rcases m with rfl | rfl | rfl | rfl | rfl | rfl | rfl | rfl
      · rw [hd] at e; cases e
      · rw [c1.hW] at e; cases e
      · obtain ⟨xs, h, _⟩ := c1.se.hp; rw [h] at e; cases e
      · rw [c1.se.hs] at e; cases e
      · rw [c2.hW] at e; cases e
      · obtain ⟨xs, h, _⟩ := c2.se.hp; rw [h] at e; cases e
      · rw [c2.se.hs] at e; cases e
      · exact S0.some.1 e
    have sub1 : ∀ b ∈ [w1.W, w1.P, w1.S], b ∈ [dl, w1.W, w1.P, w1.S, w2.W, w2.P, w2.S, a] := in_out [1, 2, 3] rfl
    have sub2 : ∀ b ∈ [w2.W, w2.P, w2.S], b ∈ [dl, w1.W, w1.P, w1.S, w2.W, w2.P, w2.S, a] := in_out [4, 5, 6] rfl
    have sub1' : ∀ b ∈ [w1.W, w1.P, w1.S], b ∈ [dl, w1.W, w1.P, w1.S, a] := in_out [1, 2, 3] rfl
    have sub2' : ∀ b ∈ [w2.W, w2.P, w2.S], b ∈ [dl, w2.W, w2.P, w2.S, a] := in_out [1, 2, 3] rfl
    have subA : ∀ b ∈ [w1.W, w1.P, w1.S, a], b ∈ [dl, w1.W, w1.P, w1.S, w2.W, w2.P, w2.S, a] := in_out [1, 2, 3, 7] rfl
    have subB : ∀ b ∈ [w2.W, w2.P, w2.S, a], b ∈ [dl, w1.W, w1.P, w1.S, w2.W, w2.P, w2.S, a] := in_out [4, 5, 6, 7] rfl
    have subL1 : ∀ b ∈ [dl, w2.W, w2.P, w2.S, a], b ∈ [dl, w1.W, w1.P, w1.S, w2.W, w2.P, w2.S, a] := in_out [0, 4, 5, 6, 7] rfl
    have subL2 : ∀ b ∈ [dl, w1.W, w1.P, w1.S, a], b ∈ [dl, w1.W, w1.P, w1.S, w2.W, w2.P, w2.S, a] := in_out [0, 1, 2, 3, 7] rfl
    have subD1 : ∀ b ∈ [w1.W, w1.P, w1.S, dl, w2.W, w2.P, w2.S, a], b ∈ [dl, w1.W, w1.P, w1.S, w2.W, w2.P, w2.S, a] := in_out [1, 2, 3, 0, 4, 5, 6, 7] rfl
    have subD2 : ∀ b ∈ [w2.W, w2.P, w2.S, dl, w1.W, w1.P, w1.S, a], b ∈ [dl, w1.W, w1.P, w1.S, w2.W, w2.P, w2.S, a] := in_out [4, 5, 6, 0, 1, 2, 3, 7] rfl
    have nX : X ∉ [dl, w1.W, w1.P, w1.S, w2.W, w2.P, w2.S, a] := by
      simp only [List.mem_cons, List.not_mem_nil, or_false, not_or]
      exact ⟨Ne.symm dX, pX⟩
    have nR : RL ∉ [dl, w1.W, w1.P, w1.S, w2.W, w2.P, w2.S, a] := by
      simp only [List.mem_cons, List.not_mem_nil, or_false, not_or]
      exact ⟨Ne.symm dR, pR⟩
    have nC : ca ∉ [dl, w1.W, w1.P, w1.S, w2.W, w2.P, w2.S, a] := by
      simp only [List.mem_cons, List.not_mem_nil, or_false, not_or]
      exact ⟨Ne.symm dca, pC⟩
    have ndl1 : dl ∉ [w1.W, w1.P, w1.S, a] := by
      simp only [List.mem_cons, List.not_mem_nil, or_false, not_or]
      exact ⟨dW1, dP1, dS1, da⟩
    have ndl2 : dl ∉ [w2.W, w2.P, w2.S, a] := by
      simp only [List.mem_cons, List.not_mem_nil, or_false, not_or]
      exact ⟨dW2, dP2, dS2, da⟩
    have up1 : ∀ b ∈ [w1.W, w1.P, w1.S], b ∈ [w1.W, w1.P, w1.S, a] := in_out [0, 1, 2] rfl
    have up2 : ∀ b ∈ [w2.W, w2.P, w2.S], b ∈ [w2.W, w2.P, w2.S, a] := in_out [0, 1, 2] rfl
    have ran : ∀ {v1 v2 es G} {side : Int} {d : Deed} {dt : Addr} {whole : Bool} {Q' : VK} {E' : XK}, Iv v1 v2 es G → (side = 0 ∨ side = 1) → v1.ps.length ≤ 7000 → v2.ps.length ≤ 7000 → G dt = some (.tup (deedV d)) → (∀ x, d = .push x → ∀ c ∈ [dl, w1.W, w1.P, w1.S, w2.W, w2.P, w2.S, a], Deep c 2 G x) → (∀ G' u1 u2, Iv u1 u2 es G' → u1.ps.length ≤ v1.ps.length + 1 → u2.ps.length ≤ v2.ps.length + 1 → Q' (.bl true) G') → sp_run T.C_Session K [.ref X, .int side, .ref dt, .bl whole] G Q' E' := fun {v1 v2 es G side d dt whole Q' E'} h hs l1 l2 hdt dn q => by
      have pr := pres h
      obtain ⟨c1, c2, x0, l0, a1, a2, S0, ys, hd, en⟩ := iw h
      rcases hs with rfl | rfl
      · refine ⟨X, w1.W, w2.W, dt, 0, whole, d, r, z, w1, w2, v1, v2, _, _, rfl, x0, .inl ⟨rfl, rfl, rfl⟩, c1, c2, e12, by simp, by simp, by simp, fun m => nX (subD1 _ m), hdt, fun x e c m => dn x e c (subD1 _ m), fun c m => pr c (subL1 _ m), l1, l2, fun G' u ys' D b cu => q G' u v2 (wi ⟨cu, c2.buti c1.se.ins e12' b sub1', b.row c1.se.ins x0 (fun m => nX (sub1 _ m)), b.row c1.se.ins l0 (fun m => nR (sub1 _ m)), a1.buti c1.se.ins (se_ne c1.se a1) b sub1, a2.buti c1.se.ins (se_ne c1.se a2) b sub1, sto_buti c1.se.ins S0 b a1W (fun m => nC (sub1 _ m)), ys, b.row c1.se.ins hd (fun m => ndl1 (up1 _ m)), Paired.mapP en fun _ _ h => h.buti c1.se.ins b sub1⟩) D.len.1 (Nat.le_succ _)⟩
      · refine ⟨X, w1.W, w2.W, dt, 1, whole, d, r, z, w2, w1, v2, v1, _, _, rfl, x0, .inr ⟨rfl, rfl, rfl⟩, c2, c1, e12', by simp, by simp, by simp, fun m => nX (subD2 _ m), hdt, fun x e c m => dn x e c (subD2 _ m), fun c m => pr c (subL2 _ m), l2, l1, fun G' u ys' D b cu => q G' v1 u (wi ⟨c1.buti c2.se.ins e12 b sub2', cu, b.row c2.se.ins x0 (fun m => nX (sub2 _ m)), b.row c2.se.ins l0 (fun m => nR (sub2 _ m)), a1.buti c2.se.ins (se_ne c2.se a1) b sub2, a2.buti c2.se.ins (se_ne c2.se a2) b sub2, sto_buti c2.se.ins S0 b a2W (fun m => nC (sub2 _ m)), ys, b.row c2.se.ins hd (fun m => ndl2 (up2 _ m)), Paired.mapP en fun _ _ h => h.buti c2.se.ins b sub2⟩) (Nat.le_succ _) D.len.1⟩
    have unw : ∀ {v1 v2 es G} {side : Int} {Q' : VK} {E' : XK}, Iv v1 v2 es G → (side = 0 ∨ side = 1) → v1.ps.length ≤ 1000 → v2.ps.length ≤ 1000 → (∀ G' u1 u2, Iv u1 u2 es G' → u1.ps.length ≤ v1.ps.length → u2.ps.length ≤ v2.ps.length → (∀ q xs, G q = some (.lst xs) → q ∉ [dl, w1.W, w1.P, w1.S, w2.W, w2.P, w2.S, a] → G' q = some (.lst xs)) → Q' (.bl true) G') → sp_unwound T.C_Session K [.ref a, .ref X, .int side] G Q' E' := fun {v1 v2 es G side Q' E'} h hs l1 l2 q => by
      have pr := pres h
      obtain ⟨c1, c2, x0, l0, a1, a2, S0, ys, hd, en⟩ := iw h
      rcases hs with rfl | rfl
      · refine ⟨a, ca, X, w1.W, w2.W, 0, r, z, w1, w2, v1, v2, [dl, w2.W, w2.P, w2.S, a], [dl, w1.W, w1.P, w1.S, a], rfl, S0, x0, .inl ⟨rfl, rfl, rfl⟩, c1, c2, e12, by simp, by simp, by simp, fun m => nX (subD1 _ m), by simp, by simp, Xa, fun m => nC (sub1 _ m), fun c m => pr c (subL1 _ m), l1, by omega, fun G' u p0 _ b cu co S' => q G' u v2 (wi ⟨cu, co, b.row c1.se.ins x0 (fun m => nX (subA _ m)), b.row c1.se.ins l0 (fun m => nR (subA _ m)), a1.buti c1.se.ins (se_ne c1.se a1) b subA, a2.buti c1.se.ins (se_ne c1.se a2) b subA, S', ys, b.row c1.se.ins hd ndl1, Paired.mapP en fun _ _ h => h.buti c1.se.ins b subA⟩) (by rw [p0]; exact Nat.zero_le _) (Nat.le_refl _) fun qa xs hq nq => b.row c1.se.ins hq (fun m => nq (subA _ m))⟩
      · refine ⟨a, ca, X, w1.W, w2.W, 1, r, z, w2, w1, v2, v1, [dl, w1.W, w1.P, w1.S, a], [dl, w2.W, w2.P, w2.S, a], rfl, S0, x0, .inr ⟨rfl, rfl, rfl⟩, c2, c1, e12', by simp, by simp, by simp, fun m => nX (subD2 _ m), by simp, by simp, Xa, fun m => nC (sub2 _ m), fun c m => pr c (subL2 _ m), l2, by omega, fun G' u p0 _ b cu co S' => q G' v1 u (wi ⟨co, cu, b.row c2.se.ins x0 (fun m => nX (subB _ m)), b.row c2.se.ins l0 (fun m => nR (subB _ m)), a1.buti c2.se.ins (se_ne c2.se a1) b subB, a2.buti c2.se.ins (se_ne c2.se a2) b subB, S', ys, b.row c2.se.ins hd ndl2, Paired.mapP en fun _ _ h => h.buti c2.se.ins b subB⟩) (Nat.le_refl _) (by rw [p0]; exact Nat.zero_le _) fun qa xs hq nq => b.row c2.se.ins hq (fun m => nq (subB _ m))⟩
    have ipush : ∀ {v1 v2 es G} {sd : Int} {d : Deed} {dt tt : Addr}, Iv v1 v2 es G → (sd = 0 ∨ sd = 1) → es.length ≤ 1000 → G dt = some (.tup (deedV d)) → (∀ x, d = .push x → ∀ c ∈ [dl, w1.W, w1.P, w1.S, w2.W, w2.P, w2.S, a], Deep c 2 G x) → G tt = none → ∃ ys, (upd G tt (.tup [.int sd, .ref dt])) dl = some (.lst ys) ∧ ys.length < sizeLine ∧ Iv v1 v2 (es ++ [(sd, d)]) (upd (upd G tt (.tup [.int sd, .ref dt])) dl (.lst (ys ++ [.ref tt]))) := fun {v1 v2 es G sd d dt tt} h hs le hdt dn ntt => by
      have kt := same_new (o := .tup [.int sd, .ref dt]) ntt
      have htt : (upd G tt (.tup [.int sd, .ref dt])) tt = some (.tup [.int sd, .ref dt]) := upd_same
      have h' := isame h kt
      obtain ⟨c1, c2, x0, l0, a1, a2, S0, ys, hd, en⟩ := iw h'
      have hdt' := kt _ _ hdt
      have dn' : ∀ x, d = .push x → ∀ c ∈ [dl, w1.W, w1.P, w1.S, w2.W, w2.P, w2.S, a], Deep c 2 (upd G tt (.tup [.int sd, .ref dt])) x := fun x e c m => (dn x e c m).same kt
      generalize upd G tt (.tup [.int sd, .ref dt]) = G1 at htt h' c1 c2 x0 l0 a1 a2 S0 hd en hdt' dn' ⊢
      have b4 : But dl G1 (upd G1 dl (.lst (ys ++ [.ref tt]))) := But.put hd
      have ly := en.length
      refine ⟨ys, hd, Nat.lt_of_le_of_lt (by omega : _ ≤ 9000) (by decide), wi ⟨c1.but b4 (by simp) hd, c2.but b4 (by simp) hd, b4 _ _ (Ne.symm dX) x0, b4 _ _ (Ne.symm dR) l0, a1.but b4 (by simp) hd, a2.but b4 (by simp) hd, S0.put ⟨da, dca⟩, _, upd_same, ?_⟩⟩
      refine paired_snoc (Paired.mapP en fun _ _ h => h.but b4 (by simp) hd) ⟨tt, dt, rfl, b4 _ _ (fun e => by rw [e, hd] at htt; cases htt) htt, b4 _ _ (fun e => by rw [e, hd] at hdt'; cases hdt') hdt', hs, fun x e c m => (dn' x e c m).put b4 (dn' x e dl (by simp))⟩
    have iside : ∀ {v1 v2 es G} {sd : Int}, Iv v1 v2 es G → (sd = 0 ∨ sd = 1) → ∃ (w : Wc) (v : Ws) (L : List Addr), atI [V.ref w1.W, .ref w2.W] sd = some (.ref w.W) ∧ WldA T.C_Session r z L G w v ∧ a ∈ L := fun {v1 v2 es G sd} h hs => by
      obtain ⟨c1, c2, _⟩ := iw h
      rcases hs with rfl | rfl
      · exact ⟨w1, v1, _, atI_nat (j := 0) rfl, c1, by simp⟩
      · exact ⟨w2, v2, _, atI_nat (j := 1) rfl, c2, by simp⟩
    have iS : ∀ {v1 v2 es G}, Iv v1 v2 es G → Sto G a ca := fun h => (iw h).2.2.2.2.2.2.1
    refine ⟨_, rfl, a, ca, 2, rfl, Sz, by decide, fun d Hw _ _ Bw Sw => ⟨rfl, ?_⟩⟩
    have I1 := ibut I0 Bw Sw
    clear I0 Bw Sw Sz wi
    generalize decide (V.int d = V.int 0) = ag
    refine ⟨2, rfl, by decide, by decide, ?_⟩
    refine for_range (lo := 0) (n := (2 : Int).toNat) (fun t σ G => (∃ y11 y12 y13 y14, σ = [some (.ref sc), some (.ref a), some (.str r), some (.str z), some (.ref w1.p), some (.ref w2.p), some (.ref RL), some (.ref X), some (.int (n : Int)), some (.ref dl), some (.bl ag), y11, y12, y13, y14]) ∧ ∃ v1 v2 es, Iv v1 v2 es G ∧ v1.ps.length ≤ 60 * t ∧ v2.ps.length ≤ 60 * t ∧ (t < 2 → es.length = (if t = 0 then 0 else n)))
      ⟨⟨_, _, _, _, rfl⟩, _, _, [], I1, Nat.zero_le _, Nat.zero_le _, fun _ => rfl⟩ ?_ ?_
    · clear I1
      rintro t σ G ht ⟨⟨y11, y12, y13, y14, rfl⟩, v1, v2, es, I, l1, l2, lt⟩
      have t2 : t < 2 := ht
      have le := lt t2
      clear lt
      have le9 : es.length ≤ 60 := by rw [le]; split <;> omega
      refine ⟨_, rfl, (n : Int), rfl, by omega, by omega, ?_⟩
      refine for_range (lo := 0) (n := (n : Int).toNat) (fun k σ G => (∃ y12 y13 y14, σ = [some (.ref sc), some (.ref a), some (.str r), some (.str z), some (.ref w1.p), some (.ref w2.p), some (.ref RL), some (.ref X), some (.int (n : Int)), some (.ref dl), some (.bl ag), some (.int (0 + (t : Int))), y12, y13, y14]) ∧ ∃ v1 v2 es, Iv v1 v2 es G ∧ v1.ps.length ≤ 60 * t + k ∧ v2.ps.length ≤ 60 * t + k ∧ es.length = (if t = 0 then k else if ag = true then n else n + k))
        ⟨⟨_, _, _, rfl⟩, v1, v2, es, I, l1, l2, by rw [le]; split <;> (try split) <;> rfl⟩ ?_ ?_
      · clear I l1 l2 le le9 es v1 v2
        rintro k σ G hk ⟨⟨y12, y13, y14, rfl⟩, v1, v2, es, I, l1, l2, le⟩
        have hk : k < n := hk
        have le9 : es.length ≤ 1000 := by rw [le]; split <;> (try split) <;> omega
        refine ⟨fun σ' G' => ∃ (y13 : Option V) (es' : List (Int × Deed)), σ' = [some (.ref sc), some (.ref a), some (.str r), some (.str z), some (.ref w1.p), some (.ref w2.p), some (.ref RL), some (.ref X), some (.int (n : Int)), some (.ref dl), some (.bl ag), some (.int (0 + (t : Int))), some (.int (0 + (k : Int))), y13, y14] ∧ Iv v1 v2 es' G' ∧ es'.length = (if t = 0 then k + 1 else if ag = true then n else n + k + 1), ?_, ?_⟩
        · refine gen_k (t := tOr _ _) (P := fun Kc => ((t = 0 ∨ ag = false) → Kc true G) ∧ ((t ≠ 0 ∧ ag = true) → Kc false G)) ⟨fun hc => iteC rfl ?_, fun hc => iteN rfl ⟨y13, es, rfl, I, by rw [le, if_neg hc.1, if_pos hc.2, if_neg hc.1, if_pos hc.2]⟩⟩ (fun Kc kk => ?_)
          rotate_left
          · rcases (by omega : t = 0 ∨ t = 1) with rfl | rfl
            · exact ⟨_, rfl, rfl, _, rfl, iteC rfl (kk.1 (.inl rfl))⟩
            · refine ⟨_, rfl, rfl, _, rfl, iteN rfl ⟨_, rfl, ag, rfl, ?_⟩⟩
              cases ag with
              | true => exact kk.2 ⟨by decide, rfl⟩
              | false => exact kk.1 (.inr rfl)
          refine ⟨_, rfl, a, ca, 4, rfl, iS I, by decide, fun d G1 _ _ B1 S1 => ⟨rfl, .inr ⟨_, rfl, ?_⟩⟩⟩
          have I1 := ibut I B1 S1
          have hs : ∀ b : Bool, ((if b = true then (1 : Int) else 0) = 0 ∨ (if b = true then (1 : Int) else 0) = 1) := by decide
          have hsd := hs (decide (V.int d = V.int 0))
          generalize (if decide (V.int d = V.int 0) = true then (1 : Int) else 0) = sd at hsd ⊢
          obtain ⟨w, v, LW, ew, ww, mw⟩ := iside I1 hsd
          obtain ⟨_, _, x1, _, _, _, _, ys1, hd1, _⟩ := iw I1
          refine ⟨_, rfl, .inl ⟨rfl, _, .inl (.inl hd1)⟩, _, rfl, _, rfl, _, rfl, _, rfl, X, _, _, _, rfl, rfl, .inl (.inl x1), ew, a, ca, r, z, w, v, LW, rfl, S1, ww, mw, fun dt de G2 B2 S2 nd2 hdt dn => ⟨by show 2 ≤ sizeLine; decide, fun tt ntt => ?_⟩⟩
          have I2 := ibut I1 B2 S2
          obtain ⟨ys, h1, h2, h3⟩ := ipush I2 hsd le9 hdt (fun x e c mc => dn x e c (pres I1 c mc)) ntt
          refine ⟨dl, ys, _, rfl, rfl, h1, h2, _, es ++ [(sd, de)], rfl, h3, ?_⟩
          rw [List.length_append, le]
          rcases hc with h | h
          · rw [if_pos h, if_pos h]; rfl
          · rw [h]
            split <;> rfl
        · clear I le le9 es
          rintro σ' G1 ⟨y13, es, rfl, I, le⟩
          obtain ⟨J, hJ, eJ⟩ : ∃ J : Nat, J < es.length ∧ J = (if t = 0 then k else if ag = true then k else n + k) := ⟨_, by rw [le]; split <;> (try split) <;> omega, rfl⟩
          obtain ⟨c1, c2, x1, _, _, _, _, ys, hd, en⟩ := iw I
          obtain ⟨y, ey, tt, dt, rfl, ht, hdt, hsd, dn⟩ := paired_get2 en (List.getElem?_eq_getElem hJ)
          generalize es[J] = e at ht hdt hsd dn
          obtain ⟨sd, de⟩ := e
          refine ⟨_, rfl, ?_⟩
          refine gen_e (t := tOp (rI0 _) _ _) (P := fun Kc => Kc (.int (J : Int)) G1) ?_ (fun Kc kk => ?_)
          rotate_left
          · refine ⟨_, rfl, _, rfl, _, rfl, rfl, _, rfl, ?_⟩
            have cm : ∀ j : Int, CMul (n : Int) j := fun j => .inl ⟨by omega, by omega⟩
            have fin : ∀ b : Bool, (0 + (k : Int)) + (n : Int) * (if b = true then 1 else 0) = (J : Int) → Kc (.int ((0 + (k : Int)) + (n : Int) * (if b = true then 1 else 0))) G1 := fun b e => by rw [e]; exact kk
            rcases (by omega : t = 0 ∨ t = 1) with rfl | rfl
            · exact iteN rfl (.inr ⟨_, rfl, _, _, rfl, rfl, cm _, _, _, rfl, rfl, fin false (by rw [eJ]; simp)⟩)
            · refine iteC rfl ⟨_, rfl, ag, rfl, .inr ⟨_, rfl, _, _, rfl, rfl, cm _, _, _, rfl, rfl, fin (!ag) ?_⟩⟩
              rw [eJ]
              cases ag with
              | true => simp
              | false => simp; omega
          refine ⟨dl, ys, _, _, rfl, rfl, .inl (.inl hd), atI_nat ey, ?_⟩
          refine ⟨_, rfl, _, rfl, tt, _, _, _, rfl, rfl, .inl (.inl ht), rfl, _, rfl, tt, _, _, _, rfl, rfl, .inl (.inl ht), rfl, ?_⟩
          refine gen_e (t := tOrV _ _) (P := fun Kc => ∀ b : Bool, Kc (.bl b) G1) ?_ (fun Kc kk => ?_)
          rotate_left
          · refine ⟨_, rfl, _, _, rfl, rfl, _, rfl, ite2 (fun _ => kk _) (fun _ => ?_)⟩
            exact ⟨_, rfl, .inl ⟨_, rfl, _, _, rfl, rfl, (by show (0 : Int) < 8; decide), rfl, kk _⟩⟩
          intro whole
          dsimp only [tNil]
          refine ran I hsd (by omega) (by omega) hdt dn fun G2 u1 u2 I2 b1 b2 => ?_
          exact ⟨true, rfl, iteN rfl ⟨⟨_, _, _, rfl⟩, u1, u2, es, I2, by omega, by omega, le⟩⟩
      · clear I l1 l2 le le9 es v1 v2
        rintro σ G ⟨⟨y12, y13, y14, rfl⟩, v1, v2, es, I, l1, l2, le⟩
        rw [Int.toNat_natCast] at l1 l2 le
        refine ⟨_, rfl, by show 2 ≤ sizeLine; decide, fun ol nol => ?_⟩
        have kol := same_new (o := .lst [.int 0, .int 1]) nol
        have I1 := isame I kol
        refine ⟨a, ca, ol, _, rfl, iS I1, ((iS I).ne nol).1, upd_same, by show 2 ≤ 1000; decide, fun ys p G2 pm B2 S2 np pa_ pca hp => ⟨p, rfl, ⟨_, .inl (.inl hp)⟩, ?_⟩⟩
        have npL : p ∉ [dl, w1.W, w1.P, w1.S, w2.W, w2.P, w2.S, a] := fun m => pres I1 p m np
        have I2 := ibut I1 B2 S2
        refine for_list (K := K) (a := p) (xs := ys) (fun i σ G => (∃ y13, σ = [some (.ref sc), some (.ref a), some (.str r), some (.str z), some (.ref w1.p), some (.ref w2.p), some (.ref RL), some (.ref X), some (.int (n : Int)), some (.ref dl), some (.bl ag), some (.int (0 + (t : Int))), y12, y13, y14]) ∧ G p = some (.lst ys) ∧ ∃ v1 v2, Iv v1 v2 es G ∧ v1.ps.length ≤ 60 * t + n ∧ v2.ps.length ≤ 60 * t + n)
          ⟨⟨_, rfl⟩, hp, v1, v2, I2, l1, l2⟩ (fun i σ G _ h => .inl (.inl h.2.1)) ?_ ?_
        · clear I I1 I2 l1 l2 v1 v2
          rintro i x σ G3 hv ⟨⟨y13, rfl⟩, hp3, v1, v2, I3, l1, l2⟩
          obtain ⟨sd, rfl, hsd⟩ : ∃ sd : Int, x = .int sd ∧ (sd = 0 ∨ sd = 1) := by
            have mx := pm.mem_iff.mp (List.mem_of_getElem? hv)
            simp only [List.mem_cons, List.not_mem_nil, or_false] at mx
            rcases mx with rfl | rfl
            · exact ⟨0, rfl, .inl rfl⟩
            · exact ⟨1, rfl, .inr rfl⟩
          refine ⟨_, rfl, _, rfl, _, rfl, ?_⟩
          dsimp only [tNil]
          refine unw I3 hsd (by omega) (by omega) fun G4 u1 u2 I4 b1 b2 pr => ?_
          exact ⟨true, rfl, iteN rfl ⟨⟨_, rfl⟩, pr p _ hp3 npL, u1, u2, I4, by omega, by omega⟩⟩
        · clear I I1 I2 l1 l2 v1 v2
          rintro σ G3 ⟨⟨y13, rfl⟩, hp3, v1, v2, I3, l1, l2⟩
          refine ⟨⟨_, _, _, _, rfl⟩, v1, v2, es, I3, by omega, by omega, fun h => ?_⟩
          have t0 : t = 0 := by omega
          subst t0
          rw [if_pos rfl] at le
          rw [if_neg (by omega)]
          exact le
    · clear I1
      rintro σ G ⟨⟨y11, y12, y13, y14, rfl⟩, v1, v2, es, I, _⟩
      obtain ⟨c1, c2, _, l0, a1, a2, S0, _⟩ := iw I
      have mD : a ∈ [dl, w1.W, w1.P, w1.S, w2.W, w2.P, w2.S, a] := by simp
      have R1 : RP [a] G w1.p r z w1.f w1.mv w1.fin w1.M w1.F := c1.rp.weak (in_out [7] rfl)
      have R2 : RP [a] G w2.p r z w2.f w2.mv w2.fin w2.M w2.F := c2.rp.weak (in_out [7] rfl)
      refine ⟨_, rfl, RL, _, _, _, rfl, rfl, .inl (.inl l0), atI_nat (j := 0) rfl, m1, dx1, M1', F1', r, z, w1.f, w1.mv, w1.fin, _, rfl, a1, gr1.n64, fun pp MM FF H17 s17 npp hpp gnp nFF hFF => ?_⟩
      have pa1 : ∀ c ∈ [a], G c ≠ none := fun c mc => by rw [List.mem_singleton.mp mc]; exact S0.some.1
      have P3 : RP [a] H17 pp r z w1.f w1.mv w1.fin MM FF := ⟨hpp, gnp.grid pa1, hFF, fun mc => by rw [List.mem_singleton.mp mc] at nFF; exact S0.some.1 nFF⟩
      have S17 := S0.same s17
      refine ⟨_, rfl, .ref pp, .ref w1.p, rfl, (rp_deep (n := 5) gr1 P3 ma S17.ntup).toN, (rp_deep (n := 5) gr1 (R1.same s17) ma S17.ntup).toN, fun b hb => ?_⟩
      rw [hb.mpr (rp_samed (n := 5) gr1 P3 (R1.same s17))]
      refine ⟨true, rfl, iteN rfl ?_⟩
      clear P3 hb npp hpp gnp nFF hFF b
      refine ⟨_, rfl, RL, _, _, _, rfl, rfl, .inl (.inl (s17 _ _ l0)), atI_nat (j := 1) rfl, m2, dx2, M2', F2', r, z, w2.f, w2.mv, w2.fin, _, rfl, a2.same s17, gr2.n64, fun pp MM FF H18 s18 npp hpp gnp nFF hFF => ?_⟩
      have pa2 : ∀ c ∈ [a], H17 c ≠ none := fun c mc => by rw [List.mem_singleton.mp mc]; exact S17.some.1
      have P3 : RP [a] H18 pp r z w2.f w2.mv w2.fin MM FF := ⟨hpp, gnp.grid pa2, hFF, fun mc => by rw [List.mem_singleton.mp mc] at nFF; exact S17.some.1 nFF⟩
      have S18 := S17.same s18
      refine ⟨_, rfl, .ref pp, .ref w2.p, rfl, (rp_deep (n := 5) gr2 P3 ma S18.ntup).toN, (rp_deep (n := 5) gr2 ((R2.same s17).same s18) ma S18.ntup).toN, fun b hb => ?_⟩
      rw [hb.mpr (rp_samed (n := 5) gr2 P3 ((R2.same s17).same s18))]
      exact q H18

end
theorem all_mk {l : PySem.W.OpenLaw} {w : World} {K : PySem.W.Frag} {h : Heap} {mg : Str → Option Value} {names : List Str} {fa f0 f1 f2 f3 f4 f5 f6 f7 f8 f9 f10 f11 f12 f13 f14 f15 f16 f17 f18 f19 f20 f21 f22 f23 f24 f25 f26 f27 f28 f29 f30 f31 f32 f33 f34 f35 f36 f37 f38 f39 f40 f41 f42 f43 f44 f45 f46 f47 f48 : Addr} (X : K.In h) (G : h.Ns mainGlobals mg) (hfa : mg "law" = some (.ref fa)) (E : Empty names K mg h)
    {od0 an0 od1 an1 od2 an2 od3 an3 od4 an4 od5 an5 od6 an6 od7 an7 od8 an8 od9 an9 od10 an10 od11 an11 od12 an12 od13 an13 od14 an14 od15 an15 od16 an16 od17 an17 od18 an18 od19 an19 od20 an20 od21 an21 od22 an22 od23 an23 od24 an24 od25 an25 od26 an26 od27 an27 od28 an28 od29 an29 od30 an30 od31 an31 od32 an32 od33 an33 od34 an34 od35 an35 od36 an36 od37 an37 od38 an38 od39 an39 od40 an40 od41 an41 od42 an42 od43 an43 od44 an44 od45 an45 od46 an46 od47 an47 od48 an48 : Option Addr} {sl0 sl1 sl2 sl3 sl4 sl5 sl6 sl7 sl8 sl9 sl10 sl11 sl12 sl13 sl14 sl15 sl16 sl17 sl18 sl19 sl20 sl21 sl22 sl23 sl24 sl25 sl26 sl27 sl28 sl29 sl30 sl31 sl32 sl33 sl34 sl35 sl36 sl37 sl38 sl39 sl40 sl41 sl42 sl43 sl44 sl45 sl46 sl47 sl48 : Array (Option Value)} {oc0 kV0 dc0 pm0 ct0 cd0 oc1 kV1 dc1 pm1 ct1 cd1 oc2 kV2 dc2 pm2 ct2 cd2 oc3 kV3 dc3 pm3 ct3 oc4 kV4 dc4 pm4 ct4 cd4 oc5 kV5 dc5 pm5 ct5 oc6 kV6 dc6 pm6 ct6 cd6 oc7 kV7 dc7 pm7 ct7 cd7 oc8 kV8 dc8 pm8 ct8 cd8 oc9 kV9 dc9 pm9 ct9 cd9 oc10 kV10 dc10 pm10 ct10 oc11 kV11 dc11 pm11 ct11 cd11 oc12 kV12 dc12 pm12 ct12 oc13 kV13 dc13 pm13 ct13 cd13 oc14 kV14 dc14 pm14 ct14 cd14 oc15 kV15 dc15 pm15 ct15 cd15 oc16 kV16 dc16 pm16 ct16 cd16 oc17 kV17 dc17 pm17 ct17 cd17 oc18 kV18 dc18 pm18 ct18 cd18 oc19 kV19 dc19 pm19 ct19 cd19 oc20 kV20 dc20 pm20 ct20 cd20 oc21 kV21 dc21 pm21 ct21 cd21 oc22 kV22 dc22 pm22 ct22 cd22 oc23 kV23 dc23 pm23 ct23 cd23 oc24 kV24 dc24 pm24 ct24 cd24 oc25 kV25 dc25 pm25 ct25 cd25 oc26 kV26 dc26 pm26 ct26 cd26 oc27 kV27 dc27 pm27 ct27 cd27 oc28 kV28 dc28 pm28 ct28 cd28 oc29 kV29 dc29 pm29 ct29 cd29 oc30 kV30 dc30 pm30 ct30 cd30 oc31 kV31 dc31 pm31 ct31 cd31 oc32 kV32 dc32 pm32 ct32 cd32 oc33 kV33 dc33 pm33 ct33 cd33 oc34 kV34 dc34 pm34 ct34 cd34 oc35 kV35 dc35 pm35 ct35 cd35 oc36 kV36 dc36 pm36 ct36 cd36 oc37 kV37 dc37 pm37 ct37 cd37 oc38 kV38 dc38 pm38 ct38 cd38 oc39 kV39 dc39 pm39 ct39 cd39 oc40 kV40 dc40 pm40 ct40 cd40 oc41 kV41 dc41 pm41 ct41 cd41 oc42 kV42 dc42 pm42 ct42 cd42 oc43 kV43 dc43 pm43 ct43 cd43 oc44 kV44 dc44 pm44 ct44 cd44 oc45 kV45 dc45 pm45 ct45 cd45 oc46 kV46 dc46 pm46 ct46 cd46 oc47 kV47 dc47 pm47 ct47 cd47 oc48 kV48 dc48 pm48 ct48 cd48 : Value}
    {c3 P3 c5 P5 c10 P10 c12 P12 : Addr} {vd3 vd5 vd10 vd12 : Option Addr} {vl3 vl5 vl10 vl12 : Array (Option Value)} {vs3 vs5 vs10 vs12 : Array Value} {ve3 ve5 ve10 ve12 : Value}
    (a0 : PySem.W.nsIn K mainGlobals "_wall" = some (some (.ref f0))) (l0 : K.lookup f0 = some ⟨oc0, od0, .func (PySem.W.fnOf "_wall" "_wall" (defArgs s_wall) (defBody s_wall) (defScope s_wall) .none kV0 dc0 pm0 an0 cd0 ct0), sl0⟩) (k0 : PySem.W.keepIn K (.ref f0) = true) (c_0 : PySem.W.codeIn K cd0 "_wall" = true)
    (a1 : PySem.W.nsIn K mainGlobals "is_whole" = some (some (.ref f1))) (l1 : K.lookup f1 = some ⟨oc1, od1, .func (PySem.W.fnOf "is_whole" "is_whole" (defArgs s_is_whole) (defBody s_is_whole) (defScope s_is_whole) .none kV1 dc1 pm1 an1 cd1 ct1), sl1⟩) (k1 : PySem.W.keepIn K (.ref f1) = true) (c_1 : PySem.W.codeIn K cd1 "is_whole" = true)
    (a2 : PySem.W.nsIn K mainGlobals "in_range" = some (some (.ref f2))) (l2 : K.lookup f2 = some ⟨oc2, od2, .func (PySem.W.fnOf "in_range" "in_range" (defArgs s_in_range) (defBody s_in_range) (defScope s_in_range) .none kV2 dc2 pm2 an2 cd2 ct2), sl2⟩) (k2 : PySem.W.keepIn K (.ref f2) = true) (c_2 : PySem.W.codeIn K cd2 "in_range" = true)
    (a3 : PySem.W.nsIn K mainGlobals "is_letters" = some (some (.ref f3))) (l3 : K.lookup f3 = some ⟨oc3, od3, .func (PySem.W.fnOf "is_letters" "is_letters" (defArgs s_is_letters) (defBody s_is_letters) (defScope s_is_letters) .none kV3 dc3 pm3 an3 (.ref c3) ct3), sl3⟩) (k3 : PySem.W.keepIn K (.ref f3) = true) (c_3 : PySem.W.codeIn K (.ref c3) "is_letters" = true)
    (r3 : K.lookup c3 = some ⟨ve3, vd3, .fields vs3, vl3⟩) (p3 : vs3[11]? = some (.ref P3)) (n3 : K.lookup P3 = none)
    (h3 : PySem.W.codeHdIn K c3 P3 = true) (y3 : Str.ofString "is_letters" ∈ names)
    (a4 : PySem.W.nsIn K mainGlobals "is_letter" = some (some (.ref f4))) (l4 : K.lookup f4 = some ⟨oc4, od4, .func (PySem.W.fnOf "is_letter" "is_letter" (defArgs s_is_letter) (defBody s_is_letter) (defScope s_is_letter) .none kV4 dc4 pm4 an4 cd4 ct4), sl4⟩) (k4 : PySem.W.keepIn K (.ref f4) = true) (c_4 : PySem.W.codeIn K cd4 "is_letter" = true)
    (a5 : PySem.W.nsIn K mainGlobals "is_word" = some (some (.ref f5))) (l5 : K.lookup f5 = some ⟨oc5, od5, .func (PySem.W.fnOf "is_word" "is_word" (defArgs s_is_word) (defBody s_is_word) (defScope s_is_word) .none kV5 dc5 pm5 an5 (.ref c5) ct5), sl5⟩) (k5 : PySem.W.keepIn K (.ref f5) = true) (c_5 : PySem.W.codeIn K (.ref c5) "is_word" = true)
    (r5 : K.lookup c5 = some ⟨ve5, vd5, .fields vs5, vl5⟩) (p5 : vs5[11]? = some (.ref P5)) (n5 : K.lookup P5 = none)
    (h5 : PySem.W.codeHdIn K c5 P5 = true) (y5 : Str.ofString "is_word" ∈ names)
    (a6 : PySem.W.nsIn K mainGlobals "is_word_up_to" = some (some (.ref f6))) (l6 : K.lookup f6 = some ⟨oc6, od6, .func (PySem.W.fnOf "is_word_up_to" "is_word_up_to" (defArgs s_is_word_up_to) (defBody s_is_word_up_to) (defScope s_is_word_up_to) .none kV6 dc6 pm6 an6 cd6 ct6), sl6⟩) (k6 : PySem.W.keepIn K (.ref f6) = true) (c_6 : PySem.W.codeIn K cd6 "is_word_up_to" = true)
    (a7 : PySem.W.nsIn K mainGlobals "check_letters" = some (some (.ref f7))) (l7 : K.lookup f7 = some ⟨oc7, od7, .func (PySem.W.fnOf "check_letters" "check_letters" (defArgs s_check_letters) (defBody s_check_letters) (defScope s_check_letters) .none kV7 dc7 pm7 an7 cd7 ct7), sl7⟩) (k7 : PySem.W.keepIn K (.ref f7) = true) (c_7 : PySem.W.codeIn K cd7 "check_letters" = true)
    (a8 : PySem.W.nsIn K mainGlobals "check_word" = some (some (.ref f8))) (l8 : K.lookup f8 = some ⟨oc8, od8, .func (PySem.W.fnOf "check_word" "check_word" (defArgs s_check_word) (defBody s_check_word) (defScope s_check_word) .none kV8 dc8 pm8 an8 cd8 ct8), sl8⟩) (k8 : PySem.W.keepIn K (.ref f8) = true) (c_8 : PySem.W.codeIn K cd8 "check_word" = true)
    (a9 : PySem.W.nsIn K mainGlobals "check_states" = some (some (.ref f9))) (l9 : K.lookup f9 = some ⟨oc9, od9, .func (PySem.W.fnOf "check_states" "check_states" (defArgs s_check_states) (defBody s_check_states) (defScope s_check_states) .none kV9 dc9 pm9 an9 cd9 ct9), sl9⟩) (k9 : PySem.W.keepIn K (.ref f9) = true) (c_9 : PySem.W.codeIn K cd9 "check_states" = true)
    (a10 : PySem.W.nsIn K mainGlobals "check_written" = some (some (.ref f10))) (l10 : K.lookup f10 = some ⟨oc10, od10, .func (PySem.W.fnOf "check_written" "check_written" (defArgs s_check_written) (defBody s_check_written) (defScope s_check_written) .none kV10 dc10 pm10 an10 (.ref c10) ct10), sl10⟩) (k10 : PySem.W.keepIn K (.ref f10) = true) (c_10 : PySem.W.codeIn K (.ref c10) "check_written" = true)
    (r10 : K.lookup c10 = some ⟨ve10, vd10, .fields vs10, vl10⟩) (p10 : vs10[11]? = some (.ref P10)) (n10 : K.lookup P10 = none)
    (h10 : PySem.W.codeHdIn K c10 P10 = true) (y10 : Str.ofString "check_written" ∈ names)
    (a11 : PySem.W.nsIn K mainGlobals "checked_first" = some (some (.ref f11))) (l11 : K.lookup f11 = some ⟨oc11, od11, .func (PySem.W.fnOf "checked_first" "checked_first" (defArgs s_checked_first) (defBody s_checked_first) (defScope s_checked_first) .none kV11 dc11 pm11 an11 cd11 ct11), sl11⟩) (k11 : PySem.W.keepIn K (.ref f11) = true) (c_11 : PySem.W.codeIn K cd11 "checked_first" = true)
    (a12 : PySem.W.nsIn K mainGlobals "checked_rows" = some (some (.ref f12))) (l12 : K.lookup f12 = some ⟨oc12, od12, .func (PySem.W.fnOf "checked_rows" "checked_rows" (defArgs s_checked_rows) (defBody s_checked_rows) (defScope s_checked_rows) .none kV12 dc12 pm12 an12 (.ref c12) ct12), sl12⟩) (k12 : PySem.W.keepIn K (.ref f12) = true) (c_12 : PySem.W.codeIn K (.ref c12) "checked_rows" = true)
    (r12 : K.lookup c12 = some ⟨ve12, vd12, .fields vs12, vl12⟩) (p12 : vs12[11]? = some (.ref P12)) (n12 : K.lookup P12 = none)
    (h12 : PySem.W.codeHdIn K c12 P12 = true) (y12 : Str.ofString "checked_rows" ∈ names)
    (a13 : PySem.W.nsIn K mainGlobals "is_move" = some (some (.ref f13))) (l13 : K.lookup f13 = some ⟨oc13, od13, .func (PySem.W.fnOf "is_move" "is_move" (defArgs s_is_move) (defBody s_is_move) (defScope s_is_move) .none kV13 dc13 pm13 an13 cd13 ct13), sl13⟩) (k13 : PySem.W.keepIn K (.ref f13) = true) (c_13 : PySem.W.codeIn K cd13 "is_move" = true)
    (a14 : PySem.W.nsIn K mainGlobals "checked_finals" = some (some (.ref f14))) (l14 : K.lookup f14 = some ⟨oc14, od14, .func (PySem.W.fnOf "checked_finals" "checked_finals" (defArgs s_checked_finals) (defBody s_checked_finals) (defScope s_checked_finals) .none kV14 dc14 pm14 an14 cd14 ct14), sl14⟩) (k14 : PySem.W.keepIn K (.ref f14) = true) (c_14 : PySem.W.codeIn K cd14 "checked_finals" = true)
    (a15 : PySem.W.nsIn K mainGlobals "built_reader" = some (some (.ref f15))) (l15 : K.lookup f15 = some ⟨oc15, od15, .func (PySem.W.fnOf "built_reader" "built_reader" (defArgs s_built_reader) (defBody s_built_reader) (defScope s_built_reader) .none kV15 dc15 pm15 an15 cd15 ct15), sl15⟩) (k15 : PySem.W.keepIn K (.ref f15) = true) (c_15 : PySem.W.codeIn K cd15 "built_reader" = true)
    (a16 : PySem.W.nsIn K mainGlobals "empty_reader" = some (some (.ref f16))) (l16 : K.lookup f16 = some ⟨oc16, od16, .func (PySem.W.fnOf "empty_reader" "empty_reader" (defArgs s_empty_reader) (defBody s_empty_reader) (defScope s_empty_reader) .none kV16 dc16 pm16 an16 cd16 ct16), sl16⟩) (k16 : PySem.W.keepIn K (.ref f16) = true) (c_16 : PySem.W.codeIn K cd16 "empty_reader" = true)
    (a17 : PySem.W.nsIn K mainGlobals "run_over" = some (some (.ref f17))) (l17 : K.lookup f17 = some ⟨oc17, od17, .func (PySem.W.fnOf "run_over" "run_over" (defArgs s_run_over) (defBody s_run_over) (defScope s_run_over) .none kV17 dc17 pm17 an17 cd17 ct17), sl17⟩) (k17 : PySem.W.keepIn K (.ref f17) = true) (c_17 : PySem.W.codeIn K cd17 "run_over" = true)
    (a18 : PySem.W.nsIn K mainGlobals "told_by" = some (some (.ref f18))) (l18 : K.lookup f18 = some ⟨oc18, od18, .func (PySem.W.fnOf "told_by" "told_by" (defArgs s_told_by) (defBody s_told_by) (defScope s_told_by) .none kV18 dc18 pm18 an18 cd18 ct18), sl18⟩) (k18 : PySem.W.keepIn K (.ref f18) = true) (c_18 : PySem.W.codeIn K cd18 "told_by" = true)
    (a19 : PySem.W.nsIn K mainGlobals "tail_of" = some (some (.ref f19))) (l19 : K.lookup f19 = some ⟨oc19, od19, .func (PySem.W.fnOf "tail_of" "tail_of" (defArgs s_tail_of) (defBody s_tail_of) (defScope s_tail_of) .none kV19 dc19 pm19 an19 cd19 ct19), sl19⟩) (k19 : PySem.W.keepIn K (.ref f19) = true) (c_19 : PySem.W.codeIn K cd19 "tail_of" = true)
    (a20 : PySem.W.nsIn K mainGlobals "chained" = some (some (.ref f20))) (l20 : K.lookup f20 = some ⟨oc20, od20, .func (PySem.W.fnOf "chained" "chained" (defArgs s_chained) (defBody s_chained) (defScope s_chained) .none kV20 dc20 pm20 an20 cd20 ct20), sl20⟩) (k20 : PySem.W.keepIn K (.ref f20) = true) (c_20 : PySem.W.codeIn K cd20 "chained" = true)
    (a21 : PySem.W.nsIn K mainGlobals "chained_finals" = some (some (.ref f21))) (l21 : K.lookup f21 = some ⟨oc21, od21, .func (PySem.W.fnOf "chained_finals" "chained_finals" (defArgs s_chained_finals) (defBody s_chained_finals) (defScope s_chained_finals) .none kV21 dc21 pm21 an21 cd21 ct21), sl21⟩) (k21 : PySem.W.keepIn K (.ref f21) = true) (c_21 : PySem.W.codeIn K cd21 "chained_finals" = true)
    (a22 : PySem.W.nsIn K mainGlobals "_law_mix" = some (some (.ref f22))) (l22 : K.lookup f22 = some ⟨oc22, od22, .func (PySem.W.fnOf "_law_mix" "_law_mix" (defArgs s_mix) (defBody s_mix) (defScope s_mix) .none kV22 dc22 pm22 an22 cd22 ct22), sl22⟩) (k22 : PySem.W.keepIn K (.ref f22) = true) (c_22 : PySem.W.codeIn K cd22 "_law_mix" = true)
    (a23 : PySem.W.nsIn K mainGlobals "_law_store" = some (some (.ref f23))) (l23 : K.lookup f23 = some ⟨oc23, od23, .func (PySem.W.fnOf "_law_store" "_law_store" (defArgs s_store) (defBody s_store) (defScope s_store) .none kV23 dc23 pm23 an23 cd23 ct23), sl23⟩) (k23 : PySem.W.keepIn K (.ref f23) = true) (c_23 : PySem.W.codeIn K cd23 "_law_store" = true)
    (a24 : PySem.W.nsIn K mainGlobals "_law_take" = some (some (.ref f24))) (l24 : K.lookup f24 = some ⟨oc24, od24, .func (PySem.W.fnOf "_law_take" "_law_take" (defArgs s_take) (defBody s_take) (defScope s_take) .none kV24 dc24 pm24 an24 cd24 ct24), sl24⟩) (k24 : PySem.W.keepIn K (.ref f24) = true) (c_24 : PySem.W.codeIn K cd24 "_law_take" = true)
    (a25 : PySem.W.nsIn K mainGlobals "_law_pick" = some (some (.ref f25))) (l25 : K.lookup f25 = some ⟨oc25, od25, .func (PySem.W.fnOf "_law_pick" "_law_pick" (defArgs s_pick) (defBody s_pick) (defScope s_pick) .none kV25 dc25 pm25 an25 cd25 ct25), sl25⟩) (k25 : PySem.W.keepIn K (.ref f25) = true) (c_25 : PySem.W.codeIn K cd25 "_law_pick" = true)
    (a26 : PySem.W.nsIn K mainGlobals "_law_between" = some (some (.ref f26))) (l26 : K.lookup f26 = some ⟨oc26, od26, .func (PySem.W.fnOf "_law_between" "_law_between" (defArgs s_between) (defBody s_between) (defScope s_between) .none kV26 dc26 pm26 an26 cd26 ct26), sl26⟩) (k26 : PySem.W.keepIn K (.ref f26) = true) (c_26 : PySem.W.codeIn K cd26 "_law_between" = true)
    (a27 : PySem.W.nsIn K mainGlobals "_law_big" = some (some (.ref f27))) (l27 : K.lookup f27 = some ⟨oc27, od27, .func (PySem.W.fnOf "_law_big" "_law_big" (defArgs s_big) (defBody s_big) (defScope s_big) .none kV27 dc27 pm27 an27 cd27 ct27), sl27⟩) (k27 : PySem.W.keepIn K (.ref f27) = true) (c_27 : PySem.W.codeIn K cd27 "_law_big" = true)
    (a28 : PySem.W.nsIn K mainGlobals "_law_order" = some (some (.ref f28))) (l28 : K.lookup f28 = some ⟨oc28, od28, .func (PySem.W.fnOf "_law_order" "_law_order" (defArgs s_order) (defBody s_order) (defScope s_order) .none kV28 dc28 pm28 an28 cd28 ct28), sl28⟩) (k28 : PySem.W.keepIn K (.ref f28) = true) (c_28 : PySem.W.codeIn K cd28 "_law_order" = true)
    (a29 : PySem.W.nsIn K mainGlobals "_law_turned" = some (some (.ref f29))) (l29 : K.lookup f29 = some ⟨oc29, od29, .func (PySem.W.fnOf "_law_turned" "_law_turned" (defArgs s_turned) (defBody s_turned) (defScope s_turned) .none kV29 dc29 pm29 an29 cd29 ct29), sl29⟩) (k29 : PySem.W.keepIn K (.ref f29) = true) (c_29 : PySem.W.codeIn K cd29 "_law_turned" = true)
    (a30 : PySem.W.nsIn K mainGlobals "_law_no_text" = some (some (.ref f30))) (l30 : K.lookup f30 = some ⟨oc30, od30, .func (PySem.W.fnOf "_law_no_text" "_law_no_text" (defArgs s_no_text) (defBody s_no_text) (defScope s_no_text) .none kV30 dc30 pm30 an30 cd30 ct30), sl30⟩) (k30 : PySem.W.keepIn K (.ref f30) = true) (c_30 : PySem.W.codeIn K cd30 "_law_no_text" = true)
    (a31 : PySem.W.nsIn K mainGlobals "_law_letters" = some (some (.ref f31))) (l31 : K.lookup f31 = some ⟨oc31, od31, .func (PySem.W.fnOf "_law_letters" "_law_letters" (defArgs s_letters) (defBody s_letters) (defScope s_letters) .none kV31 dc31 pm31 an31 cd31 ct31), sl31⟩) (k31 : PySem.W.keepIn K (.ref f31) = true) (c_31 : PySem.W.codeIn K cd31 "_law_letters" = true)
    (a32 : PySem.W.nsIn K mainGlobals "_law_stranger" = some (some (.ref f32))) (l32 : K.lookup f32 = some ⟨oc32, od32, .func (PySem.W.fnOf "_law_stranger" "_law_stranger" (defArgs s_stranger) (defBody s_stranger) (defScope s_stranger) .none kV32 dc32 pm32 an32 cd32 ct32), sl32⟩) (k32 : PySem.W.keepIn K (.ref f32) = true) (c_32 : PySem.W.codeIn K cd32 "_law_stranger" = true)
    (a33 : PySem.W.nsIn K mainGlobals "_law_word" = some (some (.ref f33))) (l33 : K.lookup f33 = some ⟨oc33, od33, .func (PySem.W.fnOf "_law_word" "_law_word" (defArgs s_word) (defBody s_word) (defScope s_word) .none kV33 dc33 pm33 an33 cd33 ct33), sl33⟩) (k33 : PySem.W.keepIn K (.ref f33) = true) (c_33 : PySem.W.codeIn K cd33 "_law_word" = true)
    (a34 : PySem.W.nsIn K mainGlobals "_law_not_letter" = some (some (.ref f34))) (l34 : K.lookup f34 = some ⟨oc34, od34, .func (PySem.W.fnOf "_law_not_letter" "_law_not_letter" (defArgs s_not_letter) (defBody s_not_letter) (defScope s_not_letter) .none kV34 dc34 pm34 an34 cd34 ct34), sl34⟩) (k34 : PySem.W.keepIn K (.ref f34) = true) (c_34 : PySem.W.codeIn K cd34 "_law_not_letter" = true)
    (a35 : PySem.W.nsIn K mainGlobals "_law_reader" = some (some (.ref f35))) (l35 : K.lookup f35 = some ⟨oc35, od35, .func (PySem.W.fnOf "_law_reader" "_law_reader" (defArgs s_reader) (defBody s_reader) (defScope s_reader) .none kV35 dc35 pm35 an35 cd35 ct35), sl35⟩) (k35 : PySem.W.keepIn K (.ref f35) = true) (c_35 : PySem.W.codeIn K cd35 "_law_reader" = true)
    (a36 : PySem.W.nsIn K mainGlobals "_law_wide_reader" = some (some (.ref f36))) (l36 : K.lookup f36 = some ⟨oc36, od36, .func (PySem.W.fnOf "_law_wide_reader" "_law_wide_reader" (defArgs s_wide_reader) (defBody s_wide_reader) (defScope s_wide_reader) .none kV36 dc36 pm36 an36 cd36 ct36), sl36⟩) (k36 : PySem.W.keepIn K (.ref f36) = true) (c_36 : PySem.W.codeIn K cd36 "_law_wide_reader" = true)
    (a37 : PySem.W.nsIn K mainGlobals "_law_same" = some (some (.ref f37))) (l37 : K.lookup f37 = some ⟨oc37, od37, .func (PySem.W.fnOf "_law_same" "_law_same" (defArgs s_same) (defBody s_same) (defScope s_same) .none kV37 dc37 pm37 an37 cd37 ct37), sl37⟩) (k37 : PySem.W.keepIn K (.ref f37) = true) (c_37 : PySem.W.codeIn K cd37 "_law_same" = true)
    (a38 : PySem.W.nsIn K mainGlobals "_law_copy" = some (some (.ref f38))) (l38 : K.lookup f38 = some ⟨oc38, od38, .func (PySem.W.fnOf "_law_copy" "_law_copy" (defArgs s_copy) (defBody s_copy) (defScope s_copy) .none kV38 dc38 pm38 an38 cd38 ct38), sl38⟩) (k38 : PySem.W.keepIn K (.ref f38) = true) (c_38 : PySem.W.codeIn K cd38 "_law_copy" = true)
    (a39 : PySem.W.nsIn K mainGlobals "_law_reader_of" = some (some (.ref f39))) (l39 : K.lookup f39 = some ⟨oc39, od39, .func (PySem.W.fnOf "_law_reader_of" "_law_reader_of" (defArgs s_reader_of) (defBody s_reader_of) (defScope s_reader_of) .none kV39 dc39 pm39 an39 cd39 ct39), sl39⟩) (k39 : PySem.W.keepIn K (.ref f39) = true) (c_39 : PySem.W.codeIn K cd39 "_law_reader_of" = true)
    (a40 : PySem.W.nsIn K mainGlobals "_law_reader_parts_of" = some (some (.ref f40))) (l40 : K.lookup f40 = some ⟨oc40, od40, .func (PySem.W.fnOf "_law_reader_parts_of" "_law_reader_parts_of" (defArgs s_reader_parts_of) (defBody s_reader_parts_of) (defScope s_reader_parts_of) .none kV40 dc40 pm40 an40 cd40 ct40), sl40⟩) (k40 : PySem.W.keepIn K (.ref f40) = true) (c_40 : PySem.W.codeIn K cd40 "_law_reader_parts_of" = true)
    (a41 : PySem.W.nsIn K mainGlobals "_law_seen" = some (some (.ref f41))) (l41 : K.lookup f41 = some ⟨oc41, od41, .func (PySem.W.fnOf "_law_seen" "_law_seen" (defArgs s_seen) (defBody s_seen) (defScope s_seen) .none kV41 dc41 pm41 an41 cd41 ct41), sl41⟩) (k41 : PySem.W.keepIn K (.ref f41) = true) (c_41 : PySem.W.codeIn K cd41 "_law_seen" = true)
    (a42 : PySem.W.nsIn K mainGlobals "_law_due" = some (some (.ref f42))) (l42 : K.lookup f42 = some ⟨oc42, od42, .func (PySem.W.fnOf "_law_due" "_law_due" (defArgs s_due) (defBody s_due) (defScope s_due) .none kV42 dc42 pm42 an42 cd42 ct42), sl42⟩) (k42 : PySem.W.keepIn K (.ref f42) = true) (c_42 : PySem.W.codeIn K cd42 "_law_due" = true)
    (a43 : PySem.W.nsIn K mainGlobals "_law_act" = some (some (.ref f43))) (l43 : K.lookup f43 = some ⟨oc43, od43, .func (PySem.W.fnOf "_law_act" "_law_act" (defArgs s_act) (defBody s_act) (defScope s_act) .none kV43 dc43 pm43 an43 cd43 ct43), sl43⟩) (k43 : PySem.W.keepIn K (.ref f43) = true) (c_43 : PySem.W.codeIn K cd43 "_law_act" = true)
    (a44 : PySem.W.nsIn K mainGlobals "_law_answer" = some (some (.ref f44))) (l44 : K.lookup f44 = some ⟨oc44, od44, .func (PySem.W.fnOf "_law_answer" "_law_answer" (defArgs s_answer) (defBody s_answer) (defScope s_answer) .none kV44 dc44 pm44 an44 cd44 ct44), sl44⟩) (k44 : PySem.W.keepIn K (.ref f44) = true) (c_44 : PySem.W.codeIn K cd44 "_law_answer" = true)
    (a45 : PySem.W.nsIn K mainGlobals "_law_run" = some (some (.ref f45))) (l45 : K.lookup f45 = some ⟨oc45, od45, .func (PySem.W.fnOf "_law_run" "_law_run" (defArgs s_run) (defBody s_run) (defScope s_run) .none kV45 dc45 pm45 an45 cd45 ct45), sl45⟩) (k45 : PySem.W.keepIn K (.ref f45) = true) (c_45 : PySem.W.codeIn K cd45 "_law_run" = true)
    (a46 : PySem.W.nsIn K mainGlobals "_law_deed" = some (some (.ref f46))) (l46 : K.lookup f46 = some ⟨oc46, od46, .func (PySem.W.fnOf "_law_deed" "_law_deed" (defArgs s_deed) (defBody s_deed) (defScope s_deed) .none kV46 dc46 pm46 an46 cd46 ct46), sl46⟩) (k46 : PySem.W.keepIn K (.ref f46) = true) (c_46 : PySem.W.codeIn K cd46 "_law_deed" = true)
    (a47 : PySem.W.nsIn K mainGlobals "_law_unwound" = some (some (.ref f47))) (l47 : K.lookup f47 = some ⟨oc47, od47, .func (PySem.W.fnOf "_law_unwound" "_law_unwound" (defArgs s_unwound) (defBody s_unwound) (defScope s_unwound) .none kV47 dc47 pm47 an47 cd47 ct47), sl47⟩) (k47 : PySem.W.keepIn K (.ref f47) = true) (c_47 : PySem.W.codeIn K cd47 "_law_unwound" = true)
    (a48 : PySem.W.nsIn K mainGlobals "law" = some (some (.ref f48))) (l48 : K.lookup f48 = some ⟨oc48, od48, .func (PySem.W.fnOf "law" "law" (defArgs s_law) (defBody s_law) (defScope s_law) .none kV48 dc48 pm48 an48 cd48 ct48), sl48⟩) (k48 : PySem.W.keepIn K (.ref f48) = true) (c_48 : PySem.W.codeIn K cd48 "law" = true)
    {eC0 eC1 eI1 eC2 eI2 eC3 eI3 eC4 eI4 eC5 eC6 eI6 eC7 eI7 eC8 eC9 eC10 : Addr}
    (sp1 : PySem.W.specialIn K (.builtin "object.__class__") "__get__" = some (some (.builtin "getset_descriptor.__get__"))) (sp2 : PySem.W.takesIn K (.builtin "object.__class__") = some true)
    (ea0 : PySem.W.nsIn K mainGlobals "LagError" = some (some (.ref eC0))) {enm0 : _} {eq0 : _} {eN0 : _} {ebs0 : _} {ebm0 : _} {esn0 : _} {esub0 : _} {eab0 : _} {ecol0 : _} {edd0 : _} {ek00 : _} {ek10 : _} {ek20 : _} {ek30 : _} {ek50 : _} (el0 : K.lookup eC0 = some (excClassObj enm0 eq0 eC0 eN0 ebs0 ebm0 true esn0 esub0 eab0 ecol0 edd0 ek00 ek10 ek20 ek30 ek50 "ValueError.__new__")) (er0 : PySem.HandSPX.refsVE ebm0 = true)
    (esa0 : PySem.W.findIn K (.ref eC0) "__setattr__" = some (some (.builtin "object.__setattr__")))
    (eex0 : PySem.W.subIn K (.ref eC0) (.type "BaseException") = some true)
    (ety0 : PySem.W.typeIn K (.ref eC0) = some (.type "type"))
    (ekp0 : PySem.W.keepIn K (.ref eC0) = true)
    (ega0 : PySem.W.findIn K (.ref eC0) "__getattribute__" = some (some (.builtin "BaseException.__getattribute__")))
    (egg0 : PySem.W.findIn K (.ref eC0) "__getattr__" = some none)
    (ehd0 : PySem.W.hasDictIn K eC0 = true)
    (eca0 : PySem.W.findIn K (.ref eC0) "__class__" = some (some (.builtin "object.__class__")))
    (emr0 : PySem.W.mroIn K eC0 (.type "object") = some true)
    (ea1 : PySem.W.nsIn K mainGlobals "BadLetters" = some (some (.ref eC1))) {enm1 : _} {eq1 : _} {eN1 : _} {ebs1 : _} {ebm1 : _} {esn1 : _} {esub1 : _} {eab1 : _} {ecol1 : _} {edd1 : _} {ek01 : _} {ek11 : _} {ek21 : _} {ek31 : _} {ek51 : _} (el1 : K.lookup eC1 = some (excClassObj enm1 eq1 eC1 eN1 ebs1 ebm1 true esn1 esub1 eab1 ecol1 edd1 ek01 ek11 ek21 ek31 ek51 "ValueError.__new__")) (er1 : PySem.HandSPX.refsVE ebm1 = true)
    (esa1 : PySem.W.findIn K (.ref eC1) "__setattr__" = some (some (.builtin "object.__setattr__")))
    (eex1 : PySem.W.subIn K (.ref eC1) (.type "BaseException") = some true)
    (ety1 : PySem.W.typeIn K (.ref eC1) = some (.type "type"))
    (ekp1 : PySem.W.keepIn K (.ref eC1) = true)
    (ega1 : PySem.W.findIn K (.ref eC1) "__getattribute__" = some (some (.builtin "BaseException.__getattribute__")))
    (egg1 : PySem.W.findIn K (.ref eC1) "__getattr__" = some none)
    (ehd1 : PySem.W.hasDictIn K eC1 = true)
    (eca1 : PySem.W.findIn K (.ref eC1) "__class__" = some (some (.builtin "object.__class__")))
    (emr1 : PySem.W.mroIn K eC1 (.type "object") = some true)
    {eod1 ean1 : Option Addr} {esl1 : Array (Option Value)} {eoc1 ekV1 edc1 epm1 ecd1 ect1 : Value} (iI1 : PySem.W.findIn K (.ref eC1) "__init__" = some (some (.ref eI1))) (tI1 : PySem.W.typeIn K (.ref eI1) = some (.type "function"))
    (lI1 : K.lookup eI1 = some ⟨eoc1, eod1, .func (PySem.W.fnOf "__init__" "BadLetters.__init__" (defArgs si_BadLetters) (defBody si_BadLetters) (defScope si_BadLetters) .none ekV1 edc1 epm1 ean1 ecd1 ect1), esl1⟩) (cI1 : PySem.W.codeIn K ecd1 "BadLetters.__init__" = true) (kI1 : PySem.W.keepIn K (.ref eI1) = true)
    (eno1_value : PySem.W.findIn K (.ref eC1) "value" = some none)
    (ea2 : PySem.W.nsIn K mainGlobals "BadWord" = some (some (.ref eC2))) {enm2 : _} {eq2 : _} {eN2 : _} {ebs2 : _} {ebm2 : _} {esn2 : _} {esub2 : _} {eab2 : _} {ecol2 : _} {edd2 : _} {ek02 : _} {ek12 : _} {ek22 : _} {ek32 : _} {ek52 : _} (el2 : K.lookup eC2 = some (excClassObj enm2 eq2 eC2 eN2 ebs2 ebm2 true esn2 esub2 eab2 ecol2 edd2 ek02 ek12 ek22 ek32 ek52 "ValueError.__new__")) (er2 : PySem.HandSPX.refsVE ebm2 = true)
    (esa2 : PySem.W.findIn K (.ref eC2) "__setattr__" = some (some (.builtin "object.__setattr__")))
    (eex2 : PySem.W.subIn K (.ref eC2) (.type "BaseException") = some true)
    (ety2 : PySem.W.typeIn K (.ref eC2) = some (.type "type"))
    (ekp2 : PySem.W.keepIn K (.ref eC2) = true)
    (ega2 : PySem.W.findIn K (.ref eC2) "__getattribute__" = some (some (.builtin "BaseException.__getattribute__")))
    (egg2 : PySem.W.findIn K (.ref eC2) "__getattr__" = some none)
    (ehd2 : PySem.W.hasDictIn K eC2 = true)
    (eca2 : PySem.W.findIn K (.ref eC2) "__class__" = some (some (.builtin "object.__class__")))
    (emr2 : PySem.W.mroIn K eC2 (.type "object") = some true)
    {eod2 ean2 : Option Addr} {esl2 : Array (Option Value)} {eoc2 ekV2 edc2 epm2 ecd2 ect2 : Value} (iI2 : PySem.W.findIn K (.ref eC2) "__init__" = some (some (.ref eI2))) (tI2 : PySem.W.typeIn K (.ref eI2) = some (.type "function"))
    (lI2 : K.lookup eI2 = some ⟨eoc2, eod2, .func (PySem.W.fnOf "__init__" "BadWord.__init__" (defArgs si_BadWord) (defBody si_BadWord) (defScope si_BadWord) .none ekV2 edc2 epm2 ean2 ecd2 ect2), esl2⟩) (cI2 : PySem.W.codeIn K ecd2 "BadWord.__init__" = true) (kI2 : PySem.W.keepIn K (.ref eI2) = true)
    (eno2_value : PySem.W.findIn K (.ref eC2) "value" = some none)
    (ea3 : PySem.W.nsIn K mainGlobals "BadNumber" = some (some (.ref eC3))) {enm3 : _} {eq3 : _} {eN3 : _} {ebs3 : _} {ebm3 : _} {esn3 : _} {esub3 : _} {eab3 : _} {ecol3 : _} {edd3 : _} {ek03 : _} {ek13 : _} {ek23 : _} {ek33 : _} {ek53 : _} (el3 : K.lookup eC3 = some (excClassObj enm3 eq3 eC3 eN3 ebs3 ebm3 true esn3 esub3 eab3 ecol3 edd3 ek03 ek13 ek23 ek33 ek53 "ValueError.__new__")) (er3 : PySem.HandSPX.refsVE ebm3 = true)
    (esa3 : PySem.W.findIn K (.ref eC3) "__setattr__" = some (some (.builtin "object.__setattr__")))
    (eex3 : PySem.W.subIn K (.ref eC3) (.type "BaseException") = some true)
    (ety3 : PySem.W.typeIn K (.ref eC3) = some (.type "type"))
    (ekp3 : PySem.W.keepIn K (.ref eC3) = true)
    (ega3 : PySem.W.findIn K (.ref eC3) "__getattribute__" = some (some (.builtin "BaseException.__getattribute__")))
    (egg3 : PySem.W.findIn K (.ref eC3) "__getattr__" = some none)
    (ehd3 : PySem.W.hasDictIn K eC3 = true)
    (eca3 : PySem.W.findIn K (.ref eC3) "__class__" = some (some (.builtin "object.__class__")))
    (emr3 : PySem.W.mroIn K eC3 (.type "object") = some true)
    {eod3 ean3 : Option Addr} {esl3 : Array (Option Value)} {eoc3 ekV3 edc3 epm3 ecd3 ect3 : Value} (iI3 : PySem.W.findIn K (.ref eC3) "__init__" = some (some (.ref eI3))) (tI3 : PySem.W.typeIn K (.ref eI3) = some (.type "function"))
    (lI3 : K.lookup eI3 = some ⟨eoc3, eod3, .func (PySem.W.fnOf "__init__" "BadNumber.__init__" (defArgs si_BadNumber) (defBody si_BadNumber) (defScope si_BadNumber) .none ekV3 edc3 epm3 ean3 ecd3 ect3), esl3⟩) (cI3 : PySem.W.codeIn K ecd3 "BadNumber.__init__" = true) (kI3 : PySem.W.keepIn K (.ref eI3) = true)
    (eno3_value : PySem.W.findIn K (.ref eC3) "value" = some none)
    (ea4 : PySem.W.nsIn K mainGlobals "BadEntry" = some (some (.ref eC4))) {enm4 : _} {eq4 : _} {eN4 : _} {ebs4 : _} {ebm4 : _} {esn4 : _} {esub4 : _} {eab4 : _} {ecol4 : _} {edd4 : _} {ek04 : _} {ek14 : _} {ek24 : _} {ek34 : _} {ek54 : _} (el4 : K.lookup eC4 = some (excClassObj enm4 eq4 eC4 eN4 ebs4 ebm4 true esn4 esub4 eab4 ecol4 edd4 ek04 ek14 ek24 ek34 ek54 "ValueError.__new__")) (er4 : PySem.HandSPX.refsVE ebm4 = true)
    (esa4 : PySem.W.findIn K (.ref eC4) "__setattr__" = some (some (.builtin "object.__setattr__")))
    (eex4 : PySem.W.subIn K (.ref eC4) (.type "BaseException") = some true)
    (ety4 : PySem.W.typeIn K (.ref eC4) = some (.type "type"))
    (ekp4 : PySem.W.keepIn K (.ref eC4) = true)
    (ega4 : PySem.W.findIn K (.ref eC4) "__getattribute__" = some (some (.builtin "BaseException.__getattribute__")))
    (egg4 : PySem.W.findIn K (.ref eC4) "__getattr__" = some none)
    (ehd4 : PySem.W.hasDictIn K eC4 = true)
    (eca4 : PySem.W.findIn K (.ref eC4) "__class__" = some (some (.builtin "object.__class__")))
    (emr4 : PySem.W.mroIn K eC4 (.type "object") = some true)
    {eod4 ean4 : Option Addr} {esl4 : Array (Option Value)} {eoc4 ekV4 edc4 epm4 ecd4 ect4 : Value} (iI4 : PySem.W.findIn K (.ref eC4) "__init__" = some (some (.ref eI4))) (tI4 : PySem.W.typeIn K (.ref eI4) = some (.type "function"))
    (lI4 : K.lookup eI4 = some ⟨eoc4, eod4, .func (PySem.W.fnOf "__init__" "BadEntry.__init__" (defArgs si_BadEntry) (defBody si_BadEntry) (defScope si_BadEntry) .none ekV4 edc4 epm4 ean4 ecd4 ect4), esl4⟩) (cI4 : PySem.W.codeIn K ecd4 "BadEntry.__init__" = true) (kI4 : PySem.W.keepIn K (.ref eI4) = true)
    (eno4_place : PySem.W.findIn K (.ref eC4) "place" = some none)
    (eno4_index : PySem.W.findIn K (.ref eC4) "index" = some none)
    (ea5 : PySem.W.nsIn K mainGlobals "Mismatch" = some (some (.ref eC5))) {enm5 : _} {eq5 : _} {eN5 : _} {ebs5 : _} {ebm5 : _} {esn5 : _} {esub5 : _} {eab5 : _} {ecol5 : _} {edd5 : _} {ek05 : _} {ek15 : _} {ek25 : _} {ek35 : _} {ek55 : _} (el5 : K.lookup eC5 = some (excClassObj enm5 eq5 eC5 eN5 ebs5 ebm5 true esn5 esub5 eab5 ecol5 edd5 ek05 ek15 ek25 ek35 ek55 "ValueError.__new__")) (er5 : PySem.HandSPX.refsVE ebm5 = true)
    (esa5 : PySem.W.findIn K (.ref eC5) "__setattr__" = some (some (.builtin "object.__setattr__")))
    (eex5 : PySem.W.subIn K (.ref eC5) (.type "BaseException") = some true)
    (ety5 : PySem.W.typeIn K (.ref eC5) = some (.type "type"))
    (ekp5 : PySem.W.keepIn K (.ref eC5) = true)
    (ega5 : PySem.W.findIn K (.ref eC5) "__getattribute__" = some (some (.builtin "BaseException.__getattribute__")))
    (egg5 : PySem.W.findIn K (.ref eC5) "__getattr__" = some none)
    (ehd5 : PySem.W.hasDictIn K eC5 = true)
    (eca5 : PySem.W.findIn K (.ref eC5) "__class__" = some (some (.builtin "object.__class__")))
    (emr5 : PySem.W.mroIn K eC5 (.type "object") = some true)
    (exi5 : PySem.W.excIn K eC5 [.type "ValueError", .type "Exception", .type "BaseException", .type "object"] "ValueError.__new__" = true)
    (ea6 : PySem.W.nsIn K mainGlobals "TooLarge" = some (some (.ref eC6))) {enm6 : _} {eq6 : _} {eN6 : _} {ebs6 : _} {ebm6 : _} {esn6 : _} {esub6 : _} {eab6 : _} {ecol6 : _} {edd6 : _} {ek06 : _} {ek16 : _} {ek26 : _} {ek36 : _} {ek56 : _} (el6 : K.lookup eC6 = some (excClassObj enm6 eq6 eC6 eN6 ebs6 ebm6 true esn6 esub6 eab6 ecol6 edd6 ek06 ek16 ek26 ek36 ek56 "ValueError.__new__")) (er6 : PySem.HandSPX.refsVE ebm6 = true)
    (esa6 : PySem.W.findIn K (.ref eC6) "__setattr__" = some (some (.builtin "object.__setattr__")))
    (eex6 : PySem.W.subIn K (.ref eC6) (.type "BaseException") = some true)
    (ety6 : PySem.W.typeIn K (.ref eC6) = some (.type "type"))
    (ekp6 : PySem.W.keepIn K (.ref eC6) = true)
    (ega6 : PySem.W.findIn K (.ref eC6) "__getattribute__" = some (some (.builtin "BaseException.__getattribute__")))
    (egg6 : PySem.W.findIn K (.ref eC6) "__getattr__" = some none)
    (ehd6 : PySem.W.hasDictIn K eC6 = true)
    (eca6 : PySem.W.findIn K (.ref eC6) "__class__" = some (some (.builtin "object.__class__")))
    (emr6 : PySem.W.mroIn K eC6 (.type "object") = some true)
    {eod6 ean6 : Option Addr} {esl6 : Array (Option Value)} {eoc6 ekV6 edc6 epm6 ecd6 ect6 : Value} (iI6 : PySem.W.findIn K (.ref eC6) "__init__" = some (some (.ref eI6))) (tI6 : PySem.W.typeIn K (.ref eI6) = some (.type "function"))
    (lI6 : K.lookup eI6 = some ⟨eoc6, eod6, .func (PySem.W.fnOf "__init__" "TooLarge.__init__" (defArgs si_TooLarge) (defBody si_TooLarge) (defScope si_TooLarge) .none ekV6 edc6 epm6 ean6 ecd6 ect6), esl6⟩) (cI6 : PySem.W.codeIn K ecd6 "TooLarge.__init__" = true) (kI6 : PySem.W.keepIn K (.ref eI6) = true)
    (eno6_what : PySem.W.findIn K (.ref eC6) "what" = some none)
    (eno6_limit : PySem.W.findIn K (.ref eC6) "limit" = some none)
    (ea7 : PySem.W.nsIn K mainGlobals "NoMove" = some (some (.ref eC7))) {enm7 : _} {eq7 : _} {eN7 : _} {ebs7 : _} {ebm7 : _} {esn7 : _} {esub7 : _} {eab7 : _} {ecol7 : _} {edd7 : _} {ek07 : _} {ek17 : _} {ek27 : _} {ek37 : _} {ek57 : _} (el7 : K.lookup eC7 = some (excClassObj enm7 eq7 eC7 eN7 ebs7 ebm7 true esn7 esub7 eab7 ecol7 edd7 ek07 ek17 ek27 ek37 ek57 "ValueError.__new__")) (er7 : PySem.HandSPX.refsVE ebm7 = true)
    (esa7 : PySem.W.findIn K (.ref eC7) "__setattr__" = some (some (.builtin "object.__setattr__")))
    (eex7 : PySem.W.subIn K (.ref eC7) (.type "BaseException") = some true)
    (ety7 : PySem.W.typeIn K (.ref eC7) = some (.type "type"))
    (ekp7 : PySem.W.keepIn K (.ref eC7) = true)
    (ega7 : PySem.W.findIn K (.ref eC7) "__getattribute__" = some (some (.builtin "BaseException.__getattribute__")))
    (egg7 : PySem.W.findIn K (.ref eC7) "__getattr__" = some none)
    (ehd7 : PySem.W.hasDictIn K eC7 = true)
    (eca7 : PySem.W.findIn K (.ref eC7) "__class__" = some (some (.builtin "object.__class__")))
    (emr7 : PySem.W.mroIn K eC7 (.type "object") = some true)
    {eod7 ean7 : Option Addr} {esl7 : Array (Option Value)} {eoc7 ekV7 edc7 epm7 ecd7 ect7 : Value} (iI7 : PySem.W.findIn K (.ref eC7) "__init__" = some (some (.ref eI7))) (tI7 : PySem.W.typeIn K (.ref eI7) = some (.type "function"))
    (lI7 : K.lookup eI7 = some ⟨eoc7, eod7, .func (PySem.W.fnOf "__init__" "NoMove.__init__" (defArgs si_NoMove) (defBody si_NoMove) (defScope si_NoMove) .none ekV7 edc7 epm7 ean7 ecd7 ect7), esl7⟩) (cI7 : PySem.W.codeIn K ecd7 "NoMove.__init__" = true) (kI7 : PySem.W.keepIn K (.ref eI7) = true)
    (eno7_letter : PySem.W.findIn K (.ref eC7) "letter" = some none)
    (ea8 : PySem.W.nsIn K mainGlobals "NotFinal" = some (some (.ref eC8))) {enm8 : _} {eq8 : _} {eN8 : _} {ebs8 : _} {ebm8 : _} {esn8 : _} {esub8 : _} {eab8 : _} {ecol8 : _} {edd8 : _} {ek08 : _} {ek18 : _} {ek28 : _} {ek38 : _} {ek58 : _} (el8 : K.lookup eC8 = some (excClassObj enm8 eq8 eC8 eN8 ebs8 ebm8 true esn8 esub8 eab8 ecol8 edd8 ek08 ek18 ek28 ek38 ek58 "ValueError.__new__")) (er8 : PySem.HandSPX.refsVE ebm8 = true)
    (esa8 : PySem.W.findIn K (.ref eC8) "__setattr__" = some (some (.builtin "object.__setattr__")))
    (eex8 : PySem.W.subIn K (.ref eC8) (.type "BaseException") = some true)
    (ety8 : PySem.W.typeIn K (.ref eC8) = some (.type "type"))
    (ekp8 : PySem.W.keepIn K (.ref eC8) = true)
    (ega8 : PySem.W.findIn K (.ref eC8) "__getattribute__" = some (some (.builtin "BaseException.__getattribute__")))
    (egg8 : PySem.W.findIn K (.ref eC8) "__getattr__" = some none)
    (ehd8 : PySem.W.hasDictIn K eC8 = true)
    (eca8 : PySem.W.findIn K (.ref eC8) "__class__" = some (some (.builtin "object.__class__")))
    (emr8 : PySem.W.mroIn K eC8 (.type "object") = some true)
    (exi8 : PySem.W.excIn K eC8 [.type "ValueError", .type "Exception", .type "BaseException", .type "object"] "ValueError.__new__" = true)
    (ea9 : PySem.W.nsIn K mainGlobals "Closed" = some (some (.ref eC9))) {enm9 : _} {eq9 : _} {eN9 : _} {ebs9 : _} {ebm9 : _} {esn9 : _} {esub9 : _} {eab9 : _} {ecol9 : _} {edd9 : _} {ek09 : _} {ek19 : _} {ek29 : _} {ek39 : _} {ek59 : _} (el9 : K.lookup eC9 = some (excClassObj enm9 eq9 eC9 eN9 ebs9 ebm9 true esn9 esub9 eab9 ecol9 edd9 ek09 ek19 ek29 ek39 ek59 "ValueError.__new__")) (er9 : PySem.HandSPX.refsVE ebm9 = true)
    (esa9 : PySem.W.findIn K (.ref eC9) "__setattr__" = some (some (.builtin "object.__setattr__")))
    (eex9 : PySem.W.subIn K (.ref eC9) (.type "BaseException") = some true)
    (ety9 : PySem.W.typeIn K (.ref eC9) = some (.type "type"))
    (ekp9 : PySem.W.keepIn K (.ref eC9) = true)
    (ega9 : PySem.W.findIn K (.ref eC9) "__getattribute__" = some (some (.builtin "BaseException.__getattribute__")))
    (egg9 : PySem.W.findIn K (.ref eC9) "__getattr__" = some none)
    (ehd9 : PySem.W.hasDictIn K eC9 = true)
    (eca9 : PySem.W.findIn K (.ref eC9) "__class__" = some (some (.builtin "object.__class__")))
    (emr9 : PySem.W.mroIn K eC9 (.type "object") = some true)
    (exi9 : PySem.W.excIn K eC9 [.type "ValueError", .type "Exception", .type "BaseException", .type "object"] "ValueError.__new__" = true)
    (ea10 : PySem.W.nsIn K mainGlobals "NothingToUndo" = some (some (.ref eC10))) {enm10 : _} {eq10 : _} {eN10 : _} {ebs10 : _} {ebm10 : _} {esn10 : _} {esub10 : _} {eab10 : _} {ecol10 : _} {edd10 : _} {ek010 : _} {ek110 : _} {ek210 : _} {ek310 : _} {ek510 : _} (el10 : K.lookup eC10 = some (excClassObj enm10 eq10 eC10 eN10 ebs10 ebm10 true esn10 esub10 eab10 ecol10 edd10 ek010 ek110 ek210 ek310 ek510 "ValueError.__new__")) (er10 : PySem.HandSPX.refsVE ebm10 = true)
    (esa10 : PySem.W.findIn K (.ref eC10) "__setattr__" = some (some (.builtin "object.__setattr__")))
    (eex10 : PySem.W.subIn K (.ref eC10) (.type "BaseException") = some true)
    (ety10 : PySem.W.typeIn K (.ref eC10) = some (.type "type"))
    (ekp10 : PySem.W.keepIn K (.ref eC10) = true)
    (ega10 : PySem.W.findIn K (.ref eC10) "__getattribute__" = some (some (.builtin "BaseException.__getattribute__")))
    (egg10 : PySem.W.findIn K (.ref eC10) "__getattr__" = some none)
    (ehd10 : PySem.W.hasDictIn K eC10 = true)
    (eca10 : PySem.W.findIn K (.ref eC10) "__class__" = some (some (.builtin "object.__class__")))
    (emr10 : PySem.W.mroIn K eC10 (.type "object") = some true)
    (exi10 : PySem.W.excIn K eC10 [.type "ValueError", .type "Exception", .type "BaseException", .type "object"] "ValueError.__new__" = true)
    (cl_BadWord : PySem.W.isClsIn K eC2 = true) (ss_BadWord : PySem.W.subIn K (.ref eC2) (.ref eC2) = some true)
    (cl_Closed : PySem.W.isClsIn K eC9 = true) (ss_Closed : PySem.W.subIn K (.ref eC9) (.ref eC9) = some true)
    (cl_NoMove : PySem.W.isClsIn K eC7 = true) (ss_NoMove : PySem.W.subIn K (.ref eC7) (.ref eC7) = some true)
    (cl_NotFinal : PySem.W.isClsIn K eC8 = true) (ss_NotFinal : PySem.W.subIn K (.ref eC8) (.ref eC8) = some true)
    (cl_NothingToUndo : PySem.W.isClsIn K eC10 = true) (ss_NothingToUndo : PySem.W.subIn K (.ref eC10) (.ref eC10) = some true)
    (cl_BadLetters : PySem.W.isClsIn K eC1 = true) (ss_BadLetters : PySem.W.subIn K (.ref eC1) (.ref eC1) = some true)
    (cl_BadNumber : PySem.W.isClsIn K eC3 = true) (ss_BadNumber : PySem.W.subIn K (.ref eC3) (.ref eC3) = some true)
    (cl_Mismatch : PySem.W.isClsIn K eC5 = true) (ss_Mismatch : PySem.W.subIn K (.ref eC5) (.ref eC5) = some true)
    (cl_TooLarge : PySem.W.isClsIn K eC6 = true) (ss_TooLarge : PySem.W.subIn K (.ref eC6) (.ref eC6) = some true)
    (cl_LagError : PySem.W.isClsIn K eC0 = true) (ss_LagError : PySem.W.subIn K (.ref eC0) (.ref eC0) = some true)
    (s_BadLetters_BadWord : PySem.W.subIn K (.ref eC1) (.ref eC2) = some false)
    (s_BadLetters_Closed : PySem.W.subIn K (.ref eC1) (.ref eC9) = some false)
    (s_BadLetters_NoMove : PySem.W.subIn K (.ref eC1) (.ref eC7) = some false)
    (s_BadLetters_NotFinal : PySem.W.subIn K (.ref eC1) (.ref eC8) = some false)
    (s_BadLetters_NothingToUndo : PySem.W.subIn K (.ref eC1) (.ref eC10) = some false)
    (s_BadLetters_BadNumber : PySem.W.subIn K (.ref eC1) (.ref eC3) = some false)
    (s_BadLetters_Mismatch : PySem.W.subIn K (.ref eC1) (.ref eC5) = some false)
    (s_BadLetters_TooLarge : PySem.W.subIn K (.ref eC1) (.ref eC6) = some false)
    (s_BadLetters_ValueError : PySem.W.subIn K (.ref eC1) (.type "ValueError") = some true)
    (s_BadLetters_LagError : PySem.W.subIn K (.ref eC1) (.ref eC0) = some true)
    (s_BadWord_Closed : PySem.W.subIn K (.ref eC2) (.ref eC9) = some false)
    (s_BadWord_NoMove : PySem.W.subIn K (.ref eC2) (.ref eC7) = some false)
    (s_BadWord_NotFinal : PySem.W.subIn K (.ref eC2) (.ref eC8) = some false)
    (s_BadWord_NothingToUndo : PySem.W.subIn K (.ref eC2) (.ref eC10) = some false)
    (s_BadWord_BadLetters : PySem.W.subIn K (.ref eC2) (.ref eC1) = some false)
    (s_BadWord_BadNumber : PySem.W.subIn K (.ref eC2) (.ref eC3) = some false)
    (s_BadWord_Mismatch : PySem.W.subIn K (.ref eC2) (.ref eC5) = some false)
    (s_BadWord_TooLarge : PySem.W.subIn K (.ref eC2) (.ref eC6) = some false)
    (s_BadWord_ValueError : PySem.W.subIn K (.ref eC2) (.type "ValueError") = some true)
    (s_BadWord_LagError : PySem.W.subIn K (.ref eC2) (.ref eC0) = some true)
    (s_TooLarge_BadWord : PySem.W.subIn K (.ref eC6) (.ref eC2) = some false)
    (s_TooLarge_Closed : PySem.W.subIn K (.ref eC6) (.ref eC9) = some false)
    (s_TooLarge_NoMove : PySem.W.subIn K (.ref eC6) (.ref eC7) = some false)
    (s_TooLarge_NotFinal : PySem.W.subIn K (.ref eC6) (.ref eC8) = some false)
    (s_TooLarge_NothingToUndo : PySem.W.subIn K (.ref eC6) (.ref eC10) = some false)
    (s_TooLarge_BadLetters : PySem.W.subIn K (.ref eC6) (.ref eC1) = some false)
    (s_TooLarge_BadNumber : PySem.W.subIn K (.ref eC6) (.ref eC3) = some false)
    (s_TooLarge_Mismatch : PySem.W.subIn K (.ref eC6) (.ref eC5) = some false)
    (s_TooLarge_ValueError : PySem.W.subIn K (.ref eC6) (.type "ValueError") = some true)
    (s_TooLarge_LagError : PySem.W.subIn K (.ref eC6) (.ref eC0) = some true)
    (s_BadEntry_BadWord : PySem.W.subIn K (.ref eC4) (.ref eC2) = some false)
    (s_BadEntry_Closed : PySem.W.subIn K (.ref eC4) (.ref eC9) = some false)
    (s_BadEntry_NoMove : PySem.W.subIn K (.ref eC4) (.ref eC7) = some false)
    (s_BadEntry_NotFinal : PySem.W.subIn K (.ref eC4) (.ref eC8) = some false)
    (s_BadEntry_NothingToUndo : PySem.W.subIn K (.ref eC4) (.ref eC10) = some false)
    (s_BadEntry_BadLetters : PySem.W.subIn K (.ref eC4) (.ref eC1) = some false)
    (s_BadEntry_BadNumber : PySem.W.subIn K (.ref eC4) (.ref eC3) = some false)
    (s_BadEntry_Mismatch : PySem.W.subIn K (.ref eC4) (.ref eC5) = some false)
    (s_BadEntry_TooLarge : PySem.W.subIn K (.ref eC4) (.ref eC6) = some false)
    (s_BadEntry_ValueError : PySem.W.subIn K (.ref eC4) (.type "ValueError") = some true)
    (s_BadEntry_LagError : PySem.W.subIn K (.ref eC4) (.ref eC0) = some true)
    (s_Mismatch_BadWord : PySem.W.subIn K (.ref eC5) (.ref eC2) = some false)
    (s_Mismatch_Closed : PySem.W.subIn K (.ref eC5) (.ref eC9) = some false)
    (s_Mismatch_NoMove : PySem.W.subIn K (.ref eC5) (.ref eC7) = some false)
    (s_Mismatch_NotFinal : PySem.W.subIn K (.ref eC5) (.ref eC8) = some false)
    (s_Mismatch_NothingToUndo : PySem.W.subIn K (.ref eC5) (.ref eC10) = some false)
    (s_Mismatch_BadLetters : PySem.W.subIn K (.ref eC5) (.ref eC1) = some false)
    (s_Mismatch_BadNumber : PySem.W.subIn K (.ref eC5) (.ref eC3) = some false)
    (s_Mismatch_TooLarge : PySem.W.subIn K (.ref eC5) (.ref eC6) = some false)
    (s_Mismatch_ValueError : PySem.W.subIn K (.ref eC5) (.type "ValueError") = some true)
    (s_Mismatch_LagError : PySem.W.subIn K (.ref eC5) (.ref eC0) = some true)
    (s_Closed_BadWord : PySem.W.subIn K (.ref eC9) (.ref eC2) = some false)
    (s_Closed_NoMove : PySem.W.subIn K (.ref eC9) (.ref eC7) = some false)
    (s_Closed_NotFinal : PySem.W.subIn K (.ref eC9) (.ref eC8) = some false)
    (s_Closed_NothingToUndo : PySem.W.subIn K (.ref eC9) (.ref eC10) = some false)
    (s_Closed_BadLetters : PySem.W.subIn K (.ref eC9) (.ref eC1) = some false)
    (s_Closed_BadNumber : PySem.W.subIn K (.ref eC9) (.ref eC3) = some false)
    (s_Closed_Mismatch : PySem.W.subIn K (.ref eC9) (.ref eC5) = some false)
    (s_Closed_TooLarge : PySem.W.subIn K (.ref eC9) (.ref eC6) = some false)
    (s_Closed_ValueError : PySem.W.subIn K (.ref eC9) (.type "ValueError") = some true)
    (s_Closed_LagError : PySem.W.subIn K (.ref eC9) (.ref eC0) = some true)
    (s_NoMove_BadWord : PySem.W.subIn K (.ref eC7) (.ref eC2) = some false)
    (s_NoMove_Closed : PySem.W.subIn K (.ref eC7) (.ref eC9) = some false)
    (s_NoMove_NotFinal : PySem.W.subIn K (.ref eC7) (.ref eC8) = some false)
    (s_NoMove_NothingToUndo : PySem.W.subIn K (.ref eC7) (.ref eC10) = some false)
    (s_NoMove_BadLetters : PySem.W.subIn K (.ref eC7) (.ref eC1) = some false)
    (s_NoMove_BadNumber : PySem.W.subIn K (.ref eC7) (.ref eC3) = some false)
    (s_NoMove_Mismatch : PySem.W.subIn K (.ref eC7) (.ref eC5) = some false)
    (s_NoMove_TooLarge : PySem.W.subIn K (.ref eC7) (.ref eC6) = some false)
    (s_NoMove_ValueError : PySem.W.subIn K (.ref eC7) (.type "ValueError") = some true)
    (s_NoMove_LagError : PySem.W.subIn K (.ref eC7) (.ref eC0) = some true)
    (s_NotFinal_BadWord : PySem.W.subIn K (.ref eC8) (.ref eC2) = some false)
    (s_NotFinal_Closed : PySem.W.subIn K (.ref eC8) (.ref eC9) = some false)
    (s_NotFinal_NoMove : PySem.W.subIn K (.ref eC8) (.ref eC7) = some false)
    (s_NotFinal_NothingToUndo : PySem.W.subIn K (.ref eC8) (.ref eC10) = some false)
    (s_NotFinal_BadLetters : PySem.W.subIn K (.ref eC8) (.ref eC1) = some false)
    (s_NotFinal_BadNumber : PySem.W.subIn K (.ref eC8) (.ref eC3) = some false)
    (s_NotFinal_Mismatch : PySem.W.subIn K (.ref eC8) (.ref eC5) = some false)
    (s_NotFinal_TooLarge : PySem.W.subIn K (.ref eC8) (.ref eC6) = some false)
    (s_NotFinal_ValueError : PySem.W.subIn K (.ref eC8) (.type "ValueError") = some true)
    (s_NotFinal_LagError : PySem.W.subIn K (.ref eC8) (.ref eC0) = some true)
    (s_NothingToUndo_BadWord : PySem.W.subIn K (.ref eC10) (.ref eC2) = some false)
    (s_NothingToUndo_Closed : PySem.W.subIn K (.ref eC10) (.ref eC9) = some false)
    (s_NothingToUndo_NoMove : PySem.W.subIn K (.ref eC10) (.ref eC7) = some false)
    (s_NothingToUndo_NotFinal : PySem.W.subIn K (.ref eC10) (.ref eC8) = some false)
    (s_NothingToUndo_BadLetters : PySem.W.subIn K (.ref eC10) (.ref eC1) = some false)
    (s_NothingToUndo_BadNumber : PySem.W.subIn K (.ref eC10) (.ref eC3) = some false)
    (s_NothingToUndo_Mismatch : PySem.W.subIn K (.ref eC10) (.ref eC5) = some false)
    (s_NothingToUndo_TooLarge : PySem.W.subIn K (.ref eC10) (.ref eC6) = some false)
    (s_NothingToUndo_ValueError : PySem.W.subIn K (.ref eC10) (.type "ValueError") = some true)
    (s_NothingToUndo_LagError : PySem.W.subIn K (.ref eC10) (.ref eC0) = some true)
    {oC0 : Addr} (oa0 : PySem.W.nsIn K mainGlobals "Session" = some (some (.ref oC0))) (opg0 : PySem.W.plainGet K oC0 Str.empty = true) (ohd0 : PySem.W.hasDictIn K oC0 = true) (opo0 : PySem.W.plainOver K oC0 = true) (osa0 : PySem.W.findIn K (.ref oC0) "__setattr__" = some (some (.builtin "object.__setattr__"))) (omk0 : PySem.W.makesIn K oC0 = true) (okc0 : PySem.W.keepIn K (.ref oC0) = true)
    (on0__reader : PySem.W.findIn K (.ref oC0) "_reader" = some none)
    (on0__alphabet : PySem.W.findIn K (.ref oC0) "_alphabet" = some none)
    (on0__first : PySem.W.findIn K (.ref oC0) "_first" = some none)
    (on0__lines : PySem.W.findIn K (.ref oC0) "_lines" = some none)
    (on0__lasts : PySem.W.findIn K (.ref oC0) "_lasts" = some none)
    (on0__pushed : PySem.W.findIn K (.ref oC0) "_pushed" = some none)
    (on0__states : PySem.W.findIn K (.ref oC0) "_states" = some none)
    (on0__closed : PySem.W.findIn K (.ref oC0) "_closed" = some none)
    {oC1 : Addr} (oa1 : PySem.W.nsIn K mainGlobals "Reader" = some (some (.ref oC1))) (opg1 : PySem.W.plainGet K oC1 Str.empty = true) (ohd1 : PySem.W.hasDictIn K oC1 = true) (opo1 : PySem.W.plainOver K oC1 = true) (osa1 : PySem.W.findIn K (.ref oC1) "__setattr__" = some (some (.builtin "object.__setattr__"))) (omk1 : PySem.W.makesIn K oC1 = true) (okc1 : PySem.W.keepIn K (.ref oC1) = true)
    (on1__read : PySem.W.findIn K (.ref oC1) "_read" = some none)
    (on1__write : PySem.W.findIn K (.ref oC1) "_write" = some none)
    (on1__first : PySem.W.findIn K (.ref oC1) "_first" = some none)
    (on1__moves : PySem.W.findIn K (.ref oC1) "_moves" = some none)
    (on1__finals : PySem.W.findIn K (.ref oC1) "_finals" = some none)
    {mf0 : Addr} {mod0 man0 : Option Addr} {msl0 : Array (Option Value)} {moc0 mkV0 mdc0 mpm0 mcd0 mct0 : Value}
    (ma0 : PySem.W.findIn K (.ref oC0) "__init__" = some (some (.ref mf0)))
    (mi0 : PySem.W.isFn K (.ref mf0) = true)
    (ml0 : K.lookup mf0 = some ⟨moc0, mod0, .func (PySem.W.fnOf "__init__" "Session.__init__" (defArgs s_Session___init__) (defBody s_Session___init__) (defScope s_Session___init__) .none mkV0 mdc0 mpm0 man0 mcd0 mct0), msl0⟩) (mc0 : PySem.W.codeIn K mcd0 "Session.__init__" = true) (mk0 : PySem.W.keepIn K (.ref mf0) = true)
    {mf1 : Addr} {mod1 man1 : Option Addr} {msl1 : Array (Option Value)} {moc1 mkV1 mdc1 mpm1 mcd1 mct1 : Value} {mp1 : Addr} {mrest1 : List Value}
    (ma1 : PySem.W.findIn K (.ref oC0) "state" = some (some (.ref mp1)))
    (mgt1 : PySem.W.specialIn K (.ref mp1) "__get__" = some (some (.builtin "property.__get__"))) (mtk1 : PySem.W.takesIn K (.ref mp1) = some true) (mrc1 : PySem.W.recIn K mp1 "property" = some (.ref mf1 :: mrest1))
    (ml1 : K.lookup mf1 = some ⟨moc1, mod1, .func (PySem.W.fnOf "state" "Session.state" (defArgs s_Session_state) (defBody s_Session_state) (defScope s_Session_state) .none mkV1 mdc1 mpm1 man1 mcd1 mct1), msl1⟩) (mc1 : PySem.W.codeIn K mcd1 "Session.state" = true) (mk1 : PySem.W.keepIn K (.ref mf1) = true)
    {mf2 : Addr} {mod2 man2 : Option Addr} {msl2 : Array (Option Value)} {moc2 mkV2 mdc2 mpm2 mcd2 mct2 : Value} {mp2 : Addr} {mrest2 : List Value}
    (ma2 : PySem.W.findIn K (.ref oC0) "taken" = some (some (.ref mp2)))
    (mgt2 : PySem.W.specialIn K (.ref mp2) "__get__" = some (some (.builtin "property.__get__"))) (mtk2 : PySem.W.takesIn K (.ref mp2) = some true) (mrc2 : PySem.W.recIn K mp2 "property" = some (.ref mf2 :: mrest2))
    (ml2 : K.lookup mf2 = some ⟨moc2, mod2, .func (PySem.W.fnOf "taken" "Session.taken" (defArgs s_Session_taken) (defBody s_Session_taken) (defScope s_Session_taken) .none mkV2 mdc2 mpm2 man2 mcd2 mct2), msl2⟩) (mc2 : PySem.W.codeIn K mcd2 "Session.taken" = true) (mk2 : PySem.W.keepIn K (.ref mf2) = true)
    {mf3 : Addr} {mod3 man3 : Option Addr} {msl3 : Array (Option Value)} {moc3 mkV3 mdc3 mpm3 mcd3 mct3 : Value} {mp3 : Addr} {mrest3 : List Value}
    (ma3 : PySem.W.findIn K (.ref oC0) "written" = some (some (.ref mp3)))
    (mgt3 : PySem.W.specialIn K (.ref mp3) "__get__" = some (some (.builtin "property.__get__"))) (mtk3 : PySem.W.takesIn K (.ref mp3) = some true) (mrc3 : PySem.W.recIn K mp3 "property" = some (.ref mf3 :: mrest3))
    (ml3 : K.lookup mf3 = some ⟨moc3, mod3, .func (PySem.W.fnOf "written" "Session.written" (defArgs s_Session_written) (defBody s_Session_written) (defScope s_Session_written) .none mkV3 mdc3 mpm3 man3 mcd3 mct3), msl3⟩) (mc3 : PySem.W.codeIn K mcd3 "Session.written" = true) (mk3 : PySem.W.keepIn K (.ref mf3) = true)
    {mf4 : Addr} {mod4 man4 : Option Addr} {msl4 : Array (Option Value)} {moc4 mkV4 mdc4 mpm4 mcd4 mct4 : Value} {mp4 : Addr} {mrest4 : List Value}
    (ma4 : PySem.W.findIn K (.ref oC0) "held" = some (some (.ref mp4)))
    (mgt4 : PySem.W.specialIn K (.ref mp4) "__get__" = some (some (.builtin "property.__get__"))) (mtk4 : PySem.W.takesIn K (.ref mp4) = some true) (mrc4 : PySem.W.recIn K mp4 "property" = some (.ref mf4 :: mrest4))
    (ml4 : K.lookup mf4 = some ⟨moc4, mod4, .func (PySem.W.fnOf "held" "Session.held" (defArgs s_Session_held) (defBody s_Session_held) (defScope s_Session_held) .none mkV4 mdc4 mpm4 man4 mcd4 mct4), msl4⟩) (mc4 : PySem.W.codeIn K mcd4 "Session.held" = true) (mk4 : PySem.W.keepIn K (.ref mf4) = true)
    {mf5 : Addr} {mod5 man5 : Option Addr} {msl5 : Array (Option Value)} {moc5 mkV5 mdc5 mpm5 mcd5 mct5 : Value} {mp5 : Addr} {mrest5 : List Value}
    (ma5 : PySem.W.findIn K (.ref oC0) "closed" = some (some (.ref mp5)))
    (mgt5 : PySem.W.specialIn K (.ref mp5) "__get__" = some (some (.builtin "property.__get__"))) (mtk5 : PySem.W.takesIn K (.ref mp5) = some true) (mrc5 : PySem.W.recIn K mp5 "property" = some (.ref mf5 :: mrest5))
    (ml5 : K.lookup mf5 = some ⟨moc5, mod5, .func (PySem.W.fnOf "closed" "Session.closed" (defArgs s_Session_closed) (defBody s_Session_closed) (defScope s_Session_closed) .none mkV5 mdc5 mpm5 man5 mcd5 mct5), msl5⟩) (mc5 : PySem.W.codeIn K mcd5 "Session.closed" = true) (mk5 : PySem.W.keepIn K (.ref mf5) = true)
    {mf6 : Addr} {mod6 man6 : Option Addr} {msl6 : Array (Option Value)} {moc6 mkV6 mdc6 mpm6 mcd6 mct6 : Value}
    (ma6 : PySem.W.findIn K (.ref oC0) "__len__" = some (some (.ref mf6)))
    (mi6 : PySem.W.isFn K (.ref mf6) = true)
    (ml6 : K.lookup mf6 = some ⟨moc6, mod6, .func (PySem.W.fnOf "__len__" "Session.__len__" (defArgs s_Session___len__) (defBody s_Session___len__) (defScope s_Session___len__) .none mkV6 mdc6 mpm6 man6 mcd6 mct6), msl6⟩) (mc6 : PySem.W.codeIn K mcd6 "Session.__len__" = true) (mk6 : PySem.W.keepIn K (.ref mf6) = true)
    {mf7 : Addr} {mod7 man7 : Option Addr} {msl7 : Array (Option Value)} {moc7 mkV7 mdc7 mpm7 mcd7 mct7 : Value}
    (ma7 : PySem.W.findIn K (.ref oC0) "__iter__" = some (some (.ref mf7)))
    (mi7 : PySem.W.isFn K (.ref mf7) = true)
    (ml7 : K.lookup mf7 = some ⟨moc7, mod7, .func (PySem.W.fnOf "__iter__" "Session.__iter__" (defArgs s_Session___iter__) (defBody s_Session___iter__) (defScope s_Session___iter__) .none mkV7 mdc7 mpm7 man7 mcd7 mct7), msl7⟩) (mc7 : PySem.W.codeIn K mcd7 "Session.__iter__" = true) (mk7 : PySem.W.keepIn K (.ref mf7) = true)
    {mf8 : Addr} {mod8 man8 : Option Addr} {msl8 : Array (Option Value)} {moc8 mkV8 mdc8 mpm8 mcd8 mct8 : Value}
    (ma8 : PySem.W.findIn K (.ref oC0) "push" = some (some (.ref mf8)))
    (mi8 : PySem.W.isFn K (.ref mf8) = true)
    (ml8 : K.lookup mf8 = some ⟨moc8, mod8, .func (PySem.W.fnOf "push" "Session.push" (defArgs s_Session_push) (defBody s_Session_push) (defScope s_Session_push) .none mkV8 mdc8 mpm8 man8 mcd8 mct8), msl8⟩) (mc8 : PySem.W.codeIn K mcd8 "Session.push" = true) (mk8 : PySem.W.keepIn K (.ref mf8) = true)
    {mf9 : Addr} {mod9 man9 : Option Addr} {msl9 : Array (Option Value)} {moc9 mkV9 mdc9 mpm9 mcd9 mct9 : Value}
    (ma9 : PySem.W.findIn K (.ref oC0) "reads" = some (some (.ref mf9)))
    (mi9 : PySem.W.isFn K (.ref mf9) = true)
    (ml9 : K.lookup mf9 = some ⟨moc9, mod9, .func (PySem.W.fnOf "reads" "Session.reads" (defArgs s_Session_reads) (defBody s_Session_reads) (defScope s_Session_reads) .none mkV9 mdc9 mpm9 man9 mcd9 mct9), msl9⟩) (mc9 : PySem.W.codeIn K mcd9 "Session.reads" = true) (mk9 : PySem.W.keepIn K (.ref mf9) = true)
    {mf10 : Addr} {mod10 man10 : Option Addr} {msl10 : Array (Option Value)} {moc10 mkV10 mdc10 mpm10 mcd10 mct10 : Value}
    (ma10 : PySem.W.findIn K (.ref oC0) "close" = some (some (.ref mf10)))
    (mi10 : PySem.W.isFn K (.ref mf10) = true)
    (ml10 : K.lookup mf10 = some ⟨moc10, mod10, .func (PySem.W.fnOf "close" "Session.close" (defArgs s_Session_close) (defBody s_Session_close) (defScope s_Session_close) .none mkV10 mdc10 mpm10 man10 mcd10 mct10), msl10⟩) (mc10 : PySem.W.codeIn K mcd10 "Session.close" = true) (mk10 : PySem.W.keepIn K (.ref mf10) = true)
    {mf11 : Addr} {mod11 man11 : Option Addr} {msl11 : Array (Option Value)} {moc11 mkV11 mdc11 mpm11 mcd11 mct11 : Value}
    (ma11 : PySem.W.findIn K (.ref oC0) "back" = some (some (.ref mf11)))
    (mi11 : PySem.W.isFn K (.ref mf11) = true)
    (ml11 : K.lookup mf11 = some ⟨moc11, mod11, .func (PySem.W.fnOf "back" "Session.back" (defArgs s_Session_back) (defBody s_Session_back) (defScope s_Session_back) .none mkV11 mdc11 mpm11 man11 mcd11 mct11), msl11⟩) (mc11 : PySem.W.codeIn K mcd11 "Session.back" = true) (mk11 : PySem.W.keepIn K (.ref mf11) = true)
    {mf12 : Addr} {mod12 man12 : Option Addr} {msl12 : Array (Option Value)} {moc12 mkV12 mdc12 mpm12 mcd12 mct12 : Value}
    (ma12 : PySem.W.findIn K (.ref oC0) "twin" = some (some (.ref mf12)))
    (mi12 : PySem.W.isFn K (.ref mf12) = true)
    (ml12 : K.lookup mf12 = some ⟨moc12, mod12, .func (PySem.W.fnOf "twin" "Session.twin" (defArgs s_Session_twin) (defBody s_Session_twin) (defScope s_Session_twin) .none mkV12 mdc12 mpm12 man12 mcd12 mct12), msl12⟩) (mc12 : PySem.W.codeIn K mcd12 "Session.twin" = true) (mk12 : PySem.W.keepIn K (.ref mf12) = true)
    {mf13 : Addr} {mod13 man13 : Option Addr} {msl13 : Array (Option Value)} {moc13 mkV13 mdc13 mpm13 mcd13 mct13 : Value}
    (ma13 : PySem.W.findIn K (.ref oC1) "__init__" = some (some (.ref mf13)))
    (mi13 : PySem.W.isFn K (.ref mf13) = true)
    (ml13 : K.lookup mf13 = some ⟨moc13, mod13, .func (PySem.W.fnOf "__init__" "Reader.__init__" (defArgs s_Reader___init__) (defBody s_Reader___init__) (defScope s_Reader___init__) .none mkV13 mdc13 mpm13 man13 mcd13 mct13), msl13⟩) (mc13 : PySem.W.codeIn K mcd13 "Reader.__init__" = true) (mk13 : PySem.W.keepIn K (.ref mf13) = true)
    {mf14 : Addr} {mod14 man14 : Option Addr} {msl14 : Array (Option Value)} {moc14 mkV14 mdc14 mpm14 mcd14 mct14 : Value} {mp14 : Addr} {mrest14 : List Value}
    (ma14 : PySem.W.findIn K (.ref oC1) "read" = some (some (.ref mp14)))
    (mgt14 : PySem.W.specialIn K (.ref mp14) "__get__" = some (some (.builtin "property.__get__"))) (mtk14 : PySem.W.takesIn K (.ref mp14) = some true) (mrc14 : PySem.W.recIn K mp14 "property" = some (.ref mf14 :: mrest14))
    (ml14 : K.lookup mf14 = some ⟨moc14, mod14, .func (PySem.W.fnOf "read" "Reader.read" (defArgs s_Reader_read) (defBody s_Reader_read) (defScope s_Reader_read) .none mkV14 mdc14 mpm14 man14 mcd14 mct14), msl14⟩) (mc14 : PySem.W.codeIn K mcd14 "Reader.read" = true) (mk14 : PySem.W.keepIn K (.ref mf14) = true)
    {mf15 : Addr} {mod15 man15 : Option Addr} {msl15 : Array (Option Value)} {moc15 mkV15 mdc15 mpm15 mcd15 mct15 : Value} {mp15 : Addr} {mrest15 : List Value}
    (ma15 : PySem.W.findIn K (.ref oC1) "write" = some (some (.ref mp15)))
    (mgt15 : PySem.W.specialIn K (.ref mp15) "__get__" = some (some (.builtin "property.__get__"))) (mtk15 : PySem.W.takesIn K (.ref mp15) = some true) (mrc15 : PySem.W.recIn K mp15 "property" = some (.ref mf15 :: mrest15))
    (ml15 : K.lookup mf15 = some ⟨moc15, mod15, .func (PySem.W.fnOf "write" "Reader.write" (defArgs s_Reader_write) (defBody s_Reader_write) (defScope s_Reader_write) .none mkV15 mdc15 mpm15 man15 mcd15 mct15), msl15⟩) (mc15 : PySem.W.codeIn K mcd15 "Reader.write" = true) (mk15 : PySem.W.keepIn K (.ref mf15) = true)
    {mf16 : Addr} {mod16 man16 : Option Addr} {msl16 : Array (Option Value)} {moc16 mkV16 mdc16 mpm16 mcd16 mct16 : Value} {mp16 : Addr} {mrest16 : List Value}
    (ma16 : PySem.W.findIn K (.ref oC1) "first" = some (some (.ref mp16)))
    (mgt16 : PySem.W.specialIn K (.ref mp16) "__get__" = some (some (.builtin "property.__get__"))) (mtk16 : PySem.W.takesIn K (.ref mp16) = some true) (mrc16 : PySem.W.recIn K mp16 "property" = some (.ref mf16 :: mrest16))
    (ml16 : K.lookup mf16 = some ⟨moc16, mod16, .func (PySem.W.fnOf "first" "Reader.first" (defArgs s_Reader_first) (defBody s_Reader_first) (defScope s_Reader_first) .none mkV16 mdc16 mpm16 man16 mcd16 mct16), msl16⟩) (mc16 : PySem.W.codeIn K mcd16 "Reader.first" = true) (mk16 : PySem.W.keepIn K (.ref mf16) = true)
    {mf17 : Addr} {mod17 man17 : Option Addr} {msl17 : Array (Option Value)} {moc17 mkV17 mdc17 mpm17 mcd17 mct17 : Value} {mp17 : Addr} {mrest17 : List Value}
    (ma17 : PySem.W.findIn K (.ref oC1) "moves" = some (some (.ref mp17)))
    (mgt17 : PySem.W.specialIn K (.ref mp17) "__get__" = some (some (.builtin "property.__get__"))) (mtk17 : PySem.W.takesIn K (.ref mp17) = some true) (mrc17 : PySem.W.recIn K mp17 "property" = some (.ref mf17 :: mrest17))
    (ml17 : K.lookup mf17 = some ⟨moc17, mod17, .func (PySem.W.fnOf "moves" "Reader.moves" (defArgs s_Reader_moves) (defBody s_Reader_moves) (defScope s_Reader_moves) .none mkV17 mdc17 mpm17 man17 mcd17 mct17), msl17⟩) (mc17 : PySem.W.codeIn K mcd17 "Reader.moves" = true) (mk17 : PySem.W.keepIn K (.ref mf17) = true)
    {mf18 : Addr} {mod18 man18 : Option Addr} {msl18 : Array (Option Value)} {moc18 mkV18 mdc18 mpm18 mcd18 mct18 : Value} {mp18 : Addr} {mrest18 : List Value}
    (ma18 : PySem.W.findIn K (.ref oC1) "finals" = some (some (.ref mp18)))
    (mgt18 : PySem.W.specialIn K (.ref mp18) "__get__" = some (some (.builtin "property.__get__"))) (mtk18 : PySem.W.takesIn K (.ref mp18) = some true) (mrc18 : PySem.W.recIn K mp18 "property" = some (.ref mf18 :: mrest18))
    (ml18 : K.lookup mf18 = some ⟨moc18, mod18, .func (PySem.W.fnOf "finals" "Reader.finals" (defArgs s_Reader_finals) (defBody s_Reader_finals) (defScope s_Reader_finals) .none mkV18 mdc18 mpm18 man18 mcd18 mct18), msl18⟩) (mc18 : PySem.W.codeIn K mcd18 "Reader.finals" = true) (mk18 : PySem.W.keepIn K (.ref mf18) = true)
    {mf19 : Addr} {mod19 man19 : Option Addr} {msl19 : Array (Option Value)} {moc19 mkV19 mdc19 mpm19 mcd19 mct19 : Value}
    (ma19 : PySem.W.findIn K (.ref oC1) "__len__" = some (some (.ref mf19)))
    (mi19 : PySem.W.isFn K (.ref mf19) = true)
    (ml19 : K.lookup mf19 = some ⟨moc19, mod19, .func (PySem.W.fnOf "__len__" "Reader.__len__" (defArgs s_Reader___len__) (defBody s_Reader___len__) (defScope s_Reader___len__) .none mkV19 mdc19 mpm19 man19 mcd19 mct19), msl19⟩) (mc19 : PySem.W.codeIn K mcd19 "Reader.__len__" = true) (mk19 : PySem.W.keepIn K (.ref mf19) = true)
    {mf20 : Addr} {mod20 man20 : Option Addr} {msl20 : Array (Option Value)} {moc20 mkV20 mdc20 mpm20 mcd20 mct20 : Value}
    (ma20 : PySem.W.findIn K (.ref oC1) "__rshift__" = some (some (.ref mf20)))
    (mi20 : PySem.W.isFn K (.ref mf20) = true)
    (ml20 : K.lookup mf20 = some ⟨moc20, mod20, .func (PySem.W.fnOf "__rshift__" "Reader.__rshift__" (defArgs s_Reader___rshift__) (defBody s_Reader___rshift__) (defScope s_Reader___rshift__) .none mkV20 mdc20 mpm20 man20 mcd20 mct20), msl20⟩) (mc20 : PySem.W.codeIn K mcd20 "Reader.__rshift__" = true) (mk20 : PySem.W.keepIn K (.ref mf20) = true)
    {mf21 : Addr} {mod21 man21 : Option Addr} {msl21 : Array (Option Value)} {moc21 mkV21 mdc21 mpm21 mcd21 mct21 : Value}
    (ma21 : PySem.W.findIn K (.ref oC1) "state_after" = some (some (.ref mf21)))
    (mi21 : PySem.W.isFn K (.ref mf21) = true)
    (ml21 : K.lookup mf21 = some ⟨moc21, mod21, .func (PySem.W.fnOf "state_after" "Reader.state_after" (defArgs s_Reader_state_after) (defBody s_Reader_state_after) (defScope s_Reader_state_after) .none mkV21 mdc21 mpm21 man21 mcd21 mct21), msl21⟩) (mc21 : PySem.W.codeIn K mcd21 "Reader.state_after" = true) (mk21 : PySem.W.keepIn K (.ref mf21) = true)
    {mf22 : Addr} {mod22 man22 : Option Addr} {msl22 : Array (Option Value)} {moc22 mkV22 mdc22 mpm22 mcd22 mct22 : Value}
    (ma22 : PySem.W.findIn K (.ref oC1) "written_after" = some (some (.ref mf22)))
    (mi22 : PySem.W.isFn K (.ref mf22) = true)
    (ml22 : K.lookup mf22 = some ⟨moc22, mod22, .func (PySem.W.fnOf "written_after" "Reader.written_after" (defArgs s_Reader_written_after) (defBody s_Reader_written_after) (defScope s_Reader_written_after) .none mkV22 mdc22 mpm22 man22 mcd22 mct22), msl22⟩) (mc22 : PySem.W.codeIn K mcd22 "Reader.written_after" = true) (mk22 : PySem.W.keepIn K (.ref mf22) = true)
    {mf23 : Addr} {mod23 man23 : Option Addr} {msl23 : Array (Option Value)} {moc23 mkV23 mdc23 mpm23 mcd23 mct23 : Value}
    (ma23 : PySem.W.findIn K (.ref oC1) "tell" = some (some (.ref mf23)))
    (mi23 : PySem.W.isFn K (.ref mf23) = true)
    (ml23 : K.lookup mf23 = some ⟨moc23, mod23, .func (PySem.W.fnOf "tell" "Reader.tell" (defArgs s_Reader_tell) (defBody s_Reader_tell) (defScope s_Reader_tell) .none mkV23 mdc23 mpm23 man23 mcd23 mct23), msl23⟩) (mc23 : PySem.W.codeIn K mcd23 "Reader.tell" = true) (mk23 : PySem.W.keepIn K (.ref mf23) = true)
    {mf24 : Addr} {mod24 man24 : Option Addr} {msl24 : Array (Option Value)} {moc24 mkV24 mdc24 mpm24 mcd24 mct24 : Value}
    (ma24 : PySem.W.findIn K (.ref oC1) "tail" = some (some (.ref mf24)))
    (mi24 : PySem.W.isFn K (.ref mf24) = true)
    (ml24 : K.lookup mf24 = some ⟨moc24, mod24, .func (PySem.W.fnOf "tail" "Reader.tail" (defArgs s_Reader_tail) (defBody s_Reader_tail) (defScope s_Reader_tail) .none mkV24 mdc24 mpm24 man24 mcd24 mct24), msl24⟩) (mc24 : PySem.W.codeIn K mcd24 "Reader.tail" = true) (mk24 : PySem.W.keepIn K (.ref mf24) = true)
    (z_ValueError : PySem.W.nsIn K mainGlobals "ValueError" = some none)
    (z_all : PySem.W.nsIn K mainGlobals "all" = some none)
    (z_any : PySem.W.nsIn K mainGlobals "any" = some none)
    (z_bool : PySem.W.nsIn K mainGlobals "bool" = some none)
    (z_enumerate : PySem.W.nsIn K mainGlobals "enumerate" = some none)
    (z_int : PySem.W.nsIn K mainGlobals "int" = some none)
    (z_isinstance : PySem.W.nsIn K mainGlobals "isinstance" = some none)
    (z_iter : PySem.W.nsIn K mainGlobals "iter" = some none)
    (z_len : PySem.W.nsIn K mainGlobals "len" = some none)
    (z_list : PySem.W.nsIn K mainGlobals "list" = some none)
    (z_max : PySem.W.nsIn K mainGlobals "max" = some none)
    (z_min : PySem.W.nsIn K mainGlobals "min" = some none)
    (z_range : PySem.W.nsIn K mainGlobals "range" = some none)
    (z_set : PySem.W.nsIn K mainGlobals "set" = some none)
    (z_sorted : PySem.W.nsIn K mainGlobals "sorted" = some none)
    (z_str : PySem.W.nsIn K mainGlobals "str" = some none)
    (z_tuple : PySem.W.nsIn K mainGlobals "tuple" = some none)
    {t_MAX_LETTERS : Tok} (c_MAX_LETTERS : PySem.W.nsIn K mainGlobals "MAX_LETTERS" = some (some (.int 4 t_MAX_LETTERS)))
    {t_MAX_READ : Tok} (c_MAX_READ : PySem.W.nsIn K mainGlobals "MAX_READ" = some (some (.int 4000 t_MAX_READ)))
    {t_MAX_WRITTEN : Tok} (c_MAX_WRITTEN : PySem.W.nsIn K mainGlobals "MAX_WRITTEN" = some (some (.int 400 t_MAX_WRITTEN)))
    {t_MAX_STATES : Tok} (c_MAX_STATES : PySem.W.nsIn K mainGlobals "MAX_STATES" = some (some (.int 64 t_MAX_STATES)))
    {t_SMALL_LETTERS : Tok} (c_SMALL_LETTERS : PySem.W.nsIn K mainGlobals "SMALL_LETTERS" = some (some (.str "abcdefghijklmnopqrstuvwxyz" t_SMALL_LETTERS)))
    (one : ∀ p ∈ ([(P3, (Str.ofString "is_letters" ++ ".<locals>.") ++ "<genexpr>"), (P5, (Str.ofString "is_word" ++ ".<locals>.") ++ "<genexpr>"), (P10, (Str.ofString "check_written" ++ ".<locals>.") ++ "<genexpr>"), (P12, (Str.ofString "checked_rows" ++ ".<locals>.") ++ "<genexpr>")] : List (Addr × Str)), ∀ q ∈ ([(P3, (Str.ofString "is_letters" ++ ".<locals>.") ++ "<genexpr>"), (P5, (Str.ofString "is_word" ++ ".<locals>.") ++ "<genexpr>"), (P10, (Str.ofString "check_written" ++ ".<locals>.") ++ "<genexpr>"), (P12, (Str.ofString "checked_rows" ++ ".<locals>.") ++ "<genexpr>")] : List (Addr × Str)), p.1 = q.1 → p.2 = q.2) : LamX.LawAtS l w K CX0 (15 + 1) 63 "script" mg fa h := by
  have e := hfa.symm.trans (PySem.W.mg_of X G a48)
  cases e
  have F0 := fun_mk (st := s_wall) l0 c_0 k0
  have b0 := F0.binds (ps := ["k"]) fun _ _ _ _ _ _ us hl => match us, hl with | [_], _ => rfl
  have F1 := fun_mk (st := s_is_whole) l1 c_1 k1
  have b1 := F1.binds (ps := ["value"]) fun _ _ _ _ _ _ us hl => match us, hl with | [_], _ => rfl
  have F2 := fun_mk (st := s_in_range) l2 c_2 k2
  have b2 := F2.binds (ps := ["value", "low", "high"]) fun _ _ _ _ _ _ us hl => match us, hl with | [_, _, _], _ => rfl
  have F3 := fun_mk (st := s_is_letters) l3 c_3 k3
  have b3 := F3.binds (ps := ["value"]) fun _ _ _ _ _ _ us hl => match us, hl with | [_], _ => rfl
  have F4 := fun_mk (st := s_is_letter) l4 c_4 k4
  have b4 := F4.binds (ps := ["letters", "value"]) fun _ _ _ _ _ _ us hl => match us, hl with | [_, _], _ => rfl
  have F5 := fun_mk (st := s_is_word) l5 c_5 k5
  have b5 := F5.binds (ps := ["letters", "value"]) fun _ _ _ _ _ _ us hl => match us, hl with | [_, _], _ => rfl
  have F6 := fun_mk (st := s_is_word_up_to) l6 c_6 k6
  have b6 := F6.binds (ps := ["letters", "value", "most"]) fun _ _ _ _ _ _ us hl => match us, hl with | [_, _, _], _ => rfl
  have F7 := fun_mk (st := s_check_letters) l7 c_7 k7
  have b7 := F7.binds (ps := ["letters"]) fun _ _ _ _ _ _ us hl => match us, hl with | [_], _ => rfl
  have F8 := fun_mk (st := s_check_word) l8 c_8 k8
  have b8 := F8.binds (ps := ["letters", "word"]) fun _ _ _ _ _ _ us hl => match us, hl with | [_, _], _ => rfl
  have F9 := fun_mk (st := s_check_states) l9 c_9 k9
  have b9 := F9.binds (ps := ["count"]) fun _ _ _ _ _ _ us hl => match us, hl with | [_], _ => rfl
  have F10 := fun_mk (st := s_check_written) l10 c_10 k10
  have b10 := F10.binds (ps := ["words"]) fun _ _ _ _ _ _ us hl => match us, hl with | [_], _ => rfl
  have F11 := fun_mk (st := s_checked_first) l11 c_11 k11
  have b11 := F11.binds (ps := ["write", "first"]) fun _ _ _ _ _ _ us hl => match us, hl with | [_, _], _ => rfl
  have F12 := fun_mk (st := s_checked_rows) l12 c_12 k12
  have b12 := F12.binds (ps := ["read", "write", "moves"]) fun _ _ _ _ _ _ us hl => match us, hl with | [_, _, _], _ => rfl
  have F13 := fun_mk (st := s_is_move) l13 c_13 k13
  have b13 := F13.binds (ps := ["value", "write", "size"]) fun _ _ _ _ _ _ us hl => match us, hl with | [_, _, _], _ => rfl
  have F14 := fun_mk (st := s_checked_finals) l14 c_14 k14
  have b14 := F14.binds (ps := ["write", "size", "finals"]) fun _ _ _ _ _ _ us hl => match us, hl with | [_, _, _], _ => rfl
  have F15 := fun_mk (st := s_built_reader) l15 c_15 k15
  have b15 := F15.binds (ps := ["read", "write", "first", "moves", "finals"]) fun _ _ _ _ _ _ us hl => match us, hl with | [_, _, _, _, _], _ => rfl
  have F16 := fun_mk (st := s_empty_reader) l16 c_16 k16
  have b16 := F16.binds (ps := ["read", "write"]) fun _ _ _ _ _ _ us hl => match us, hl with | [_, _], _ => rfl
  have F17 := fun_mk (st := s_run_over) l17 c_17 k17
  have b17 := F17.binds (ps := ["reader", "state", "word"]) fun _ _ _ _ _ _ us hl => match us, hl with | [_, _, _], _ => rfl
  have F18 := fun_mk (st := s_told_by) l18 c_18 k18
  have b18 := F18.binds (ps := ["reader", "word"]) fun _ _ _ _ _ _ us hl => match us, hl with | [_, _], _ => rfl
  have F19 := fun_mk (st := s_tail_of) l19 c_19 k19
  have b19 := F19.binds (ps := ["reader", "state", "word"]) fun _ _ _ _ _ _ us hl => match us, hl with | [_, _, _], _ => rfl
  have F20 := fun_mk (st := s_chained) l20 c_20 k20
  have b20 := F20.binds (ps := ["first", "second"]) fun _ _ _ _ _ _ us hl => match us, hl with | [_, _], _ => rfl
  have F21 := fun_mk (st := s_chained_finals) l21 c_21 k21
  have b21 := F21.binds (ps := ["first", "second", "pairs"]) fun _ _ _ _ _ _ us hl => match us, hl with | [_, _, _], _ => rfl
  have F22 := fun_mk (st := s_mix) l22 c_22 k22
  have b22 := F22.binds (ps := ["number", "tick"]) fun _ _ _ _ _ _ us hl => match us, hl with | [_, _], _ => rfl
  have F23 := fun_mk (st := s_store) l23 c_23 k23
  have b23 := F23.binds (ps := ["script"]) fun _ _ _ _ _ _ us hl => match us, hl with | [_], _ => rfl
  have F24 := fun_mk (st := s_take) l24 c_24 k24
  have b24 := F24.binds (ps := ["store", "many"]) fun _ _ _ _ _ _ us hl => match us, hl with | [_, _], _ => rfl
  have F25 := fun_mk (st := s_pick) l25 c_25 k25
  have b25 := F25.binds (ps := ["store", "row"]) fun _ _ _ _ _ _ us hl => match us, hl with | [_, _], _ => rfl
  have F26 := fun_mk (st := s_between) l26 c_26 k26
  have b26 := F26.binds (ps := ["store", "low", "high"]) fun _ _ _ _ _ _ us hl => match us, hl with | [_, _, _], _ => rfl
  have F27 := fun_mk (st := s_big) l27 c_27 k27
  have b27 := F27.binds (ps := ["store"]) fun _ _ _ _ _ _ us hl => match us, hl with | [_], _ => rfl
  have F28 := fun_mk (st := s_order) l28 c_28 k28
  have b28 := F28.binds (ps := ["store", "size"]) fun _ _ _ _ _ _ us hl => match us, hl with | [_, _], _ => rfl
  have F29 := fun_mk (st := s_turned) l29 c_29 k29
  have b29 := F29.binds (ps := ["store", "row"]) fun _ _ _ _ _ _ us hl => match us, hl with | [_, _], _ => rfl
  have F30 := fun_mk (st := s_no_text) l30 c_30 k30
  have b30 := F30.binds (ps := ["store"]) fun _ _ _ _ _ _ us hl => match us, hl with | [_], _ => rfl
  have F31 := fun_mk (st := s_letters) l31 c_31 k31
  have b31 := F31.binds (ps := ["store", "limit"]) fun _ _ _ _ _ _ us hl => match us, hl with | [_, _], _ => rfl
  have F32 := fun_mk (st := s_stranger) l32 c_32 k32
  have b32 := F32.binds (ps := ["store", "letters"]) fun _ _ _ _ _ _ us hl => match us, hl with | [_, _], _ => rfl
  have F33 := fun_mk (st := s_word) l33 c_33 k33
  have b33 := F33.binds (ps := ["store", "letters", "limit"]) fun _ _ _ _ _ _ us hl => match us, hl with | [_, _, _], _ => rfl
  have F34 := fun_mk (st := s_not_letter) l34 c_34 k34
  have b34 := F34.binds (ps := ["store", "letters"]) fun _ _ _ _ _ _ us hl => match us, hl with | [_, _], _ => rfl
  have F35 := fun_mk (st := s_reader) l35 c_35 k35
  have b35 := F35.binds (ps := ["store", "read", "write", "limit"]) fun _ _ _ _ _ _ us hl => match us, hl with | [_, _, _, _], _ => rfl
  have F36 := fun_mk (st := s_wide_reader) l36 c_36 k36
  have b36 := F36.binds (ps := ["store", "read", "write", "size"]) fun _ _ _ _ _ _ us hl => match us, hl with | [_, _, _, _], _ => rfl
  have F37 := fun_mk (st := s_same) l37 c_37 k37
  have b37 := F37.binds (ps := ["actual", "expected"]) fun _ _ _ _ _ _ us hl => match us, hl with | [_, _], _ => rfl
  have F38 := fun_mk (st := s_copy) l38 c_38 k38
  have b38 := F38.binds (ps := ["value"]) fun _ _ _ _ _ _ us hl => match us, hl with | [_], _ => rfl
  have F39 := fun_mk (st := s_reader_of) l39 c_39 k39
  have b39 := F39.binds (ps := ["parts"]) fun _ _ _ _ _ _ us hl => match us, hl with | [_], _ => rfl
  have F40 := fun_mk (st := s_reader_parts_of) l40 c_40 k40
  have b40 := F40.binds (ps := ["reader"]) fun _ _ _ _ _ _ us hl => match us, hl with | [_], _ => rfl
  have F41 := fun_mk (st := s_seen) l41 c_41 k41
  have b41 := F41.binds (ps := ["session"]) fun _ _ _ _ _ _ us hl => match us, hl with | [_], _ => rfl
  have F42 := fun_mk (st := s_due) l42 c_42 k42
  have b42 := F42.binds (ps := ["parts", "path", "shut"]) fun _ _ _ _ _ _ us hl => match us, hl with | [_, _, _], _ => rfl
  have F43 := fun_mk (st := s_act) l43 c_43 k43
  have b43 := F43.binds (ps := ["parts", "path", "shut", "deed"]) fun _ _ _ _ _ _ us hl => match us, hl with | [_, _, _, _], _ => rfl
  have F44 := fun_mk (st := s_answer) l44 c_44 k44
  have b44 := F44.binds (ps := ["session", "deed"]) fun _ _ _ _ _ _ us hl => match us, hl with | [_, _], _ => rfl
  have F45 := fun_mk (st := s_run) l45 c_45 k45
  have b45 := F45.binds (ps := ["worlds", "side", "deed", "whole"]) fun _ _ _ _ _ _ us hl => match us, hl with | [_, _, _, _], _ => rfl
  have F46 := fun_mk (st := s_deed) l46 c_46 k46
  have b46 := F46.binds (ps := ["store", "world"]) fun _ _ _ _ _ _ us hl => match us, hl with | [_, _], _ => rfl
  have F47 := fun_mk (st := s_unwound) l47 c_47 k47
  have b47 := F47.binds (ps := ["store", "worlds", "side"]) fun _ _ _ _ _ _ us hl => match us, hl with | [_, _, _], _ => rfl
  have F48 := fun_mk (st := s_law) l48 c_48 k48
  have b48 := F48.binds (ps := ["script"]) fun _ _ _ _ _ _ us hl => match us, hl with | [_], _ => rfl
  have FI1 := fun_mk (st := si_BadLetters) lI1 cI1 kI1
  have bI1 := FI1.binds (ps := ["self", "value"]) fun _ _ _ _ _ _ us hl => match us, hl with | [_, _], _ => rfl
  have FI2 := fun_mk (st := si_BadWord) lI2 cI2 kI2
  have bI2 := FI2.binds (ps := ["self", "value"]) fun _ _ _ _ _ _ us hl => match us, hl with | [_, _], _ => rfl
  have FI3 := fun_mk (st := si_BadNumber) lI3 cI3 kI3
  have bI3 := FI3.binds (ps := ["self", "value"]) fun _ _ _ _ _ _ us hl => match us, hl with | [_, _], _ => rfl
  have FI4 := fun_mk (st := si_BadEntry) lI4 cI4 kI4
  have bI4 := FI4.binds (ps := ["self", "place", "index"]) fun _ _ _ _ _ _ us hl => match us, hl with | [_, _, _], _ => rfl
  have FI6 := fun_mk (st := si_TooLarge) lI6 cI6 kI6
  have bI6 := FI6.binds (ps := ["self", "what", "limit"]) fun _ _ _ _ _ _ us hl => match us, hl with | [_, _, _], _ => rfl
  have FI7 := fun_mk (st := si_NoMove) lI7 cI7 kI7
  have bI7 := FI7.binds (ps := ["self", "letter"]) fun _ _ _ _ _ _ us hl => match us, hl with | [_, _], _ => rfl
  have MF0 := fun_mk (st := s_Session___init__) ml0 mc0 mk0
  have mb0_0 := MF0.binds (ps := ["self", "reader"]) fun _ _ _ _ _ _ us hl => match us, hl with | [_, _], _ => rfl
  have MF1 := fun_mk (st := s_Session_state) ml1 mc1 mk1
  have mb1 := MF1.binds (ps := ["self"]) fun _ _ _ _ _ _ us hl => match us, hl with | [_], _ => rfl
  have MF2 := fun_mk (st := s_Session_taken) ml2 mc2 mk2
  have mb2 := MF2.binds (ps := ["self"]) fun _ _ _ _ _ _ us hl => match us, hl with | [_], _ => rfl
  have MF3 := fun_mk (st := s_Session_written) ml3 mc3 mk3
  have mb3 := MF3.binds (ps := ["self"]) fun _ _ _ _ _ _ us hl => match us, hl with | [_], _ => rfl
  have MF4 := fun_mk (st := s_Session_held) ml4 mc4 mk4
  have mb4 := MF4.binds (ps := ["self"]) fun _ _ _ _ _ _ us hl => match us, hl with | [_], _ => rfl
  have MF5 := fun_mk (st := s_Session_closed) ml5 mc5 mk5
  have mb5 := MF5.binds (ps := ["self"]) fun _ _ _ _ _ _ us hl => match us, hl with | [_], _ => rfl
  have MF6 := fun_mk (st := s_Session___len__) ml6 mc6 mk6
  have mb6 := MF6.binds (ps := ["self"]) fun _ _ _ _ _ _ us hl => match us, hl with | [_], _ => rfl
  have MF7 := fun_mk (st := s_Session___iter__) ml7 mc7 mk7
  have mb7 := MF7.binds (ps := ["self"]) fun _ _ _ _ _ _ us hl => match us, hl with | [_], _ => rfl
  have MF8 := fun_mk (st := s_Session_push) ml8 mc8 mk8
  have mb8 := MF8.binds (ps := ["self", "letter"]) fun _ _ _ _ _ _ us hl => match us, hl with | [_, _], _ => rfl
  have MF9 := fun_mk (st := s_Session_reads) ml9 mc9 mk9
  have mb9 := MF9.binds (ps := ["self", "value"]) fun _ _ _ _ _ _ us hl => match us, hl with | [_, _], _ => rfl
  have MF10 := fun_mk (st := s_Session_close) ml10 mc10 mk10
  have mb10 := MF10.binds (ps := ["self"]) fun _ _ _ _ _ _ us hl => match us, hl with | [_], _ => rfl
  have MF11 := fun_mk (st := s_Session_back) ml11 mc11 mk11
  have mb11 := MF11.binds (ps := ["self"]) fun _ _ _ _ _ _ us hl => match us, hl with | [_], _ => rfl
  have MF12 := fun_mk (st := s_Session_twin) ml12 mc12 mk12
  have mb12 := MF12.binds (ps := ["self"]) fun _ _ _ _ _ _ us hl => match us, hl with | [_], _ => rfl
  have MF13 := fun_mk (st := s_Reader___init__) ml13 mc13 mk13
  have mb13_0 := MF13.binds (ps := ["self", "read", "write", "first", "moves", "finals"]) fun _ _ _ _ _ _ us hl => match us, hl with | [_, _, _, _, _, _], _ => rfl
  have MF14 := fun_mk (st := s_Reader_read) ml14 mc14 mk14
  have mb14 := MF14.binds (ps := ["self"]) fun _ _ _ _ _ _ us hl => match us, hl with | [_], _ => rfl
  have MF15 := fun_mk (st := s_Reader_write) ml15 mc15 mk15
  have mb15 := MF15.binds (ps := ["self"]) fun _ _ _ _ _ _ us hl => match us, hl with | [_], _ => rfl
  have MF16 := fun_mk (st := s_Reader_first) ml16 mc16 mk16
  have mb16 := MF16.binds (ps := ["self"]) fun _ _ _ _ _ _ us hl => match us, hl with | [_], _ => rfl
  have MF17 := fun_mk (st := s_Reader_moves) ml17 mc17 mk17
  have mb17 := MF17.binds (ps := ["self"]) fun _ _ _ _ _ _ us hl => match us, hl with | [_], _ => rfl
  have MF18 := fun_mk (st := s_Reader_finals) ml18 mc18 mk18
  have mb18 := MF18.binds (ps := ["self"]) fun _ _ _ _ _ _ us hl => match us, hl with | [_], _ => rfl
  have MF19 := fun_mk (st := s_Reader___len__) ml19 mc19 mk19
  have mb19 := MF19.binds (ps := ["self"]) fun _ _ _ _ _ _ us hl => match us, hl with | [_], _ => rfl
  have MF20 := fun_mk (st := s_Reader___rshift__) ml20 mc20 mk20
  have mb20 := MF20.binds (ps := ["self", "other"]) fun _ _ _ _ _ _ us hl => match us, hl with | [_, _], _ => rfl
  have MF21 := fun_mk (st := s_Reader_state_after) ml21 mc21 mk21
  have mb21 := MF21.binds (ps := ["self", "word"]) fun _ _ _ _ _ _ us hl => match us, hl with | [_, _], _ => rfl
  have MF22 := fun_mk (st := s_Reader_written_after) ml22 mc22 mk22
  have mb22 := MF22.binds (ps := ["self", "word"]) fun _ _ _ _ _ _ us hl => match us, hl with | [_, _], _ => rfl
  have MF23 := fun_mk (st := s_Reader_tell) ml23 mc23 mk23
  have mb23 := MF23.binds (ps := ["self", "word"]) fun _ _ _ _ _ _ us hl => match us, hl with | [_, _], _ => rfl
  have MF24 := fun_mk (st := s_Reader_tail) ml24 mc24 mk24
  have mb24 := MF24.binds (ps := ["self", "state", "word"]) fun _ _ _ _ _ _ us hl => match us, hl with | [_, _, _], _ => rfl
  letI : Tabl := ⟨([(P3, (Str.ofString "is_letters" ++ ".<locals>.") ++ "<genexpr>"), (P5, (Str.ofString "is_word" ++ ".<locals>.") ++ "<genexpr>"), (P10, (Str.ofString "check_written" ++ ".<locals>.") ++ "<genexpr>"), (P12, (Str.ofString "checked_rows" ++ ".<locals>.") ++ "<genexpr>")] : List (Addr × Str)), one⟩
  refine ⟨_, [(c3, P3), (c5, P5), (c10, P10), (c12, P12)], sp_law K, List.forall_mem_cons.mpr ⟨E _ _ _ _ _ _ _ _ _ _ y3 (PySem.W.mg_of X G a3) l3 rfl rfl r3 p3, List.forall_mem_cons.mpr ⟨E _ _ _ _ _ _ _ _ _ _ y5 (PySem.W.mg_of X G a5) l5 rfl rfl r5 p5, List.forall_mem_cons.mpr ⟨E _ _ _ _ _ _ _ _ _ _ y10 (PySem.W.mg_of X G a10) l10 rfl rfl r10 p10, List.forall_mem_cons.mpr ⟨E _ _ _ _ _ _ _ _ _ _ y12 (PySem.W.mg_of X G a12) l12 rfl rfl r12 p12, (fun _ h => nomatch h)⟩⟩⟩⟩, List.forall_mem_cons.mpr ⟨n3, List.forall_mem_cons.mpr ⟨n5, List.forall_mem_cons.mpr ⟨n10, List.forall_mem_cons.mpr ⟨n12, (fun _ h => nomatch h)⟩⟩⟩⟩, List.forall_mem_cons.mpr ⟨PySem.W.codeHd_of_K X h3, List.forall_mem_cons.mpr ⟨PySem.W.codeHd_of_K X h5, List.forall_mem_cons.mpr ⟨PySem.W.codeHd_of_K X h10, List.forall_mem_cons.mpr ⟨PySem.W.codeHd_of_K X h12, (fun _ h => nomatch h)⟩⟩⟩⟩, fun s v => .of_eq rfl, fun H a ns hl _ hT hS => ⟨a, ns, rfl, hS, hl, List.forall_mem_cons.mpr ⟨LamX.TabS.nil (hT (c3, P3) (List.Mem.head _)), List.forall_mem_cons.mpr ⟨LamX.TabS.nil (hT (c5, P5) (List.Mem.tail _ (List.Mem.head _))), List.forall_mem_cons.mpr ⟨LamX.TabS.nil (hT (c10, P10) (List.Mem.tail _ (List.Mem.tail _ (List.Mem.head _)))), List.forall_mem_cons.mpr ⟨LamX.TabS.nil (hT (c12, P12) (List.Mem.tail _ (List.Mem.tail _ (List.Mem.tail _ (List.Mem.head _))))), (fun _ h => nomatch h)⟩⟩⟩⟩, fun _ => rfl⟩, fun base _ _ tb => ok_law (K := K) (mg := mg) { f_wall := _, fd_wall := _, F_wall := F0, b_wall := b0, g_wall := PySem.W.mg_of X G a0, f_is_whole := _, fd_is_whole := _, F_is_whole := F1, b_is_whole := b1, g_is_whole := PySem.W.mg_of X G a1, f_in_range := _, fd_in_range := _, F_in_range := F2, b_in_range := b2, g_in_range := PySem.W.mg_of X G a2, f_is_letters := _, fd_is_letters := _, C_is_letters := c3, P_is_letters := P3, F_is_letters := ⟨F3, rfl⟩, B_is_letters := tb (c3, P3) (List.Mem.head _), m_is_letters := (List.Mem.head _), b_is_letters := b3, g_is_letters := PySem.W.mg_of X G a3, f_is_letter := _, fd_is_letter := _, F_is_letter := F4, b_is_letter := b4, g_is_letter := PySem.W.mg_of X G a4, f_is_word := _, fd_is_word := _, C_is_word := c5, P_is_word := P5, F_is_word := ⟨F5, rfl⟩, B_is_word := tb (c5, P5) (List.Mem.tail _ (List.Mem.head _)), m_is_word := (List.Mem.tail _ (List.Mem.head _)), b_is_word := b5, g_is_word := PySem.W.mg_of X G a5, f_is_word_up_to := _, fd_is_word_up_to := _, F_is_word_up_to := F6, b_is_word_up_to := b6, g_is_word_up_to := PySem.W.mg_of X G a6, f_check_letters := _, fd_check_letters := _, F_check_letters := F7, b_check_letters := b7, g_check_letters := PySem.W.mg_of X G a7, f_check_word := _, fd_check_word := _, F_check_word := F8, b_check_word := b8, g_check_word := PySem.W.mg_of X G a8, f_check_states := _, fd_check_states := _, F_check_states := F9, b_check_states := b9, g_check_states := PySem.W.mg_of X G a9, f_check_written := _, fd_check_written := _, C_check_written := c10, P_check_written := P10, F_check_written := ⟨F10, rfl⟩, B_check_written := tb (c10, P10) (List.Mem.tail _ (List.Mem.tail _ (List.Mem.head _))), m_check_written := (List.Mem.tail _ (List.Mem.tail _ (List.Mem.head _))), b_check_written := b10, g_check_written := PySem.W.mg_of X G a10, f_checked_first := _, fd_checked_first := _, F_checked_first := F11, b_checked_first := b11, g_checked_first := PySem.W.mg_of X G a11, f_checked_rows := _, fd_checked_rows := _, C_checked_rows := c12, P_checked_rows := P12, F_checked_rows := ⟨F12, rfl⟩, B_checked_rows := tb (c12, P12) (List.Mem.tail _ (List.Mem.tail _ (List.Mem.tail _ (List.Mem.head _)))), m_checked_rows := (List.Mem.tail _ (List.Mem.tail _ (List.Mem.tail _ (List.Mem.head _)))), b_checked_rows := b12, g_checked_rows := PySem.W.mg_of X G a12, f_is_move := _, fd_is_move := _, F_is_move := F13, b_is_move := b13, g_is_move := PySem.W.mg_of X G a13, f_checked_finals := _, fd_checked_finals := _, F_checked_finals := F14, b_checked_finals := b14, g_checked_finals := PySem.W.mg_of X G a14, f_built_reader := _, fd_built_reader := _, F_built_reader := F15, b_built_reader := b15, g_built_reader := PySem.W.mg_of X G a15, f_empty_reader := _, fd_empty_reader := _, F_empty_reader := F16, b_empty_reader := b16, g_empty_reader := PySem.W.mg_of X G a16, f_run_over := _, fd_run_over := _, F_run_over := F17, b_run_over := b17, g_run_over := PySem.W.mg_of X G a17, f_told_by := _, fd_told_by := _, F_told_by := F18, b_told_by := b18, g_told_by := PySem.W.mg_of X G a18, f_tail_of := _, fd_tail_of := _, F_tail_of := F19, b_tail_of := b19, g_tail_of := PySem.W.mg_of X G a19, f_chained := _, fd_chained := _, F_chained := F20, b_chained := b20, g_chained := PySem.W.mg_of X G a20, f_chained_finals := _, fd_chained_finals := _, F_chained_finals := F21, b_chained_finals := b21, g_chained_finals := PySem.W.mg_of X G a21, f_mix := _, fd_mix := _, F_mix := F22, b_mix := b22, g_mix := PySem.W.mg_of X G a22, f_store := _, fd_store := _, F_store := F23, b_store := b23, g_store := PySem.W.mg_of X G a23, f_take := _, fd_take := _, F_take := F24, b_take := b24, g_take := PySem.W.mg_of X G a24, f_pick := _, fd_pick := _, F_pick := F25, b_pick := b25, g_pick := PySem.W.mg_of X G a25, f_between := _, fd_between := _, F_between := F26, b_between := b26, g_between := PySem.W.mg_of X G a26, f_big := _, fd_big := _, F_big := F27, b_big := b27, g_big := PySem.W.mg_of X G a27, f_order := _, fd_order := _, F_order := F28, b_order := b28, g_order := PySem.W.mg_of X G a28, f_turned := _, fd_turned := _, F_turned := F29, b_turned := b29, g_turned := PySem.W.mg_of X G a29, f_no_text := _, fd_no_text := _, F_no_text := F30, b_no_text := b30, g_no_text := PySem.W.mg_of X G a30, f_letters := _, fd_letters := _, F_letters := F31, b_letters := b31, g_letters := PySem.W.mg_of X G a31, f_stranger := _, fd_stranger := _, F_stranger := F32, b_stranger := b32, g_stranger := PySem.W.mg_of X G a32, f_word := _, fd_word := _, F_word := F33, b_word := b33, g_word := PySem.W.mg_of X G a33, f_not_letter := _, fd_not_letter := _, F_not_letter := F34, b_not_letter := b34, g_not_letter := PySem.W.mg_of X G a34, f_reader := _, fd_reader := _, F_reader := F35, b_reader := b35, g_reader := PySem.W.mg_of X G a35, f_wide_reader := _, fd_wide_reader := _, F_wide_reader := F36, b_wide_reader := b36, g_wide_reader := PySem.W.mg_of X G a36, f_same := _, fd_same := _, F_same := F37, b_same := b37, g_same := PySem.W.mg_of X G a37, f_copy := _, fd_copy := _, F_copy := F38, b_copy := b38, g_copy := PySem.W.mg_of X G a38, f_reader_of := _, fd_reader_of := _, F_reader_of := F39, b_reader_of := b39, g_reader_of := PySem.W.mg_of X G a39, f_reader_parts_of := _, fd_reader_parts_of := _, F_reader_parts_of := F40, b_reader_parts_of := b40, g_reader_parts_of := PySem.W.mg_of X G a40, f_seen := _, fd_seen := _, F_seen := F41, b_seen := b41, g_seen := PySem.W.mg_of X G a41, f_due := _, fd_due := _, F_due := F42, b_due := b42, g_due := PySem.W.mg_of X G a42, f_act := _, fd_act := _, F_act := F43, b_act := b43, g_act := PySem.W.mg_of X G a43, f_answer := _, fd_answer := _, F_answer := F44, b_answer := b44, g_answer := PySem.W.mg_of X G a44, f_run := _, fd_run := _, F_run := F45, b_run := b45, g_run := PySem.W.mg_of X G a45, f_deed := _, fd_deed := _, F_deed := F46, b_deed := b46, g_deed := PySem.W.mg_of X G a46, f_unwound := _, fd_unwound := _, F_unwound := F47, b_unwound := b47, g_unwound := PySem.W.mg_of X G a47, f_law := _, fd_law := _, F_law := F48, b_law := b48, g_law := PySem.W.mg_of X G a48, C_LagError := eC0, E_LagError := ⟨PySem.W.mg_of X G ea0, ⟨⟨_, _, _, _, _, _, _, _, _, _, _, _, _, _, _, el0, er0⟩, esa0, eex0, ety0, ekp0⟩, ⟨ega0, egg0, eex0, ehd0⟩, ⟨ega0, egg0, eex0, ehd0, eca0, sp1, sp2, emr0⟩⟩, C_BadLetters := eC1, E_BadLetters := ⟨PySem.W.mg_of X G ea1, ⟨⟨_, _, _, _, _, _, _, _, _, _, _, _, _, _, _, el1, er1⟩, esa1, eex1, ety1, ekp1⟩, ⟨ega1, egg1, eex1, ehd1⟩, ⟨ega1, egg1, eex1, ehd1, eca1, sp1, sp2, emr1⟩⟩, I_BadLetters := eI1, fdI_BadLetters := _, FI_BadLetters := FI1, bI_BadLetters := bI1, iI_BadLetters := iI1, tI_BadLetters := tI1, no_BadLetters_value := eno1_value, C_BadWord := eC2, E_BadWord := ⟨PySem.W.mg_of X G ea2, ⟨⟨_, _, _, _, _, _, _, _, _, _, _, _, _, _, _, el2, er2⟩, esa2, eex2, ety2, ekp2⟩, ⟨ega2, egg2, eex2, ehd2⟩, ⟨ega2, egg2, eex2, ehd2, eca2, sp1, sp2, emr2⟩⟩, I_BadWord := eI2, fdI_BadWord := _, FI_BadWord := FI2, bI_BadWord := bI2, iI_BadWord := iI2, tI_BadWord := tI2, no_BadWord_value := eno2_value, C_BadNumber := eC3, E_BadNumber := ⟨PySem.W.mg_of X G ea3, ⟨⟨_, _, _, _, _, _, _, _, _, _, _, _, _, _, _, el3, er3⟩, esa3, eex3, ety3, ekp3⟩, ⟨ega3, egg3, eex3, ehd3⟩, ⟨ega3, egg3, eex3, ehd3, eca3, sp1, sp2, emr3⟩⟩, I_BadNumber := eI3, fdI_BadNumber := _, FI_BadNumber := FI3, bI_BadNumber := bI3, iI_BadNumber := iI3, tI_BadNumber := tI3, no_BadNumber_value := eno3_value, C_BadEntry := eC4, E_BadEntry := ⟨PySem.W.mg_of X G ea4, ⟨⟨_, _, _, _, _, _, _, _, _, _, _, _, _, _, _, el4, er4⟩, esa4, eex4, ety4, ekp4⟩, ⟨ega4, egg4, eex4, ehd4⟩, ⟨ega4, egg4, eex4, ehd4, eca4, sp1, sp2, emr4⟩⟩, I_BadEntry := eI4, fdI_BadEntry := _, FI_BadEntry := FI4, bI_BadEntry := bI4, iI_BadEntry := iI4, tI_BadEntry := tI4, no_BadEntry_place := eno4_place, no_BadEntry_index := eno4_index, C_Mismatch := eC5, E_Mismatch := ⟨PySem.W.mg_of X G ea5, ⟨⟨_, _, _, _, _, _, _, _, _, _, _, _, _, _, _, el5, er5⟩, esa5, eex5, ety5, ekp5⟩, ⟨ega5, egg5, eex5, ehd5⟩, ⟨ega5, egg5, eex5, ehd5, eca5, sp1, sp2, emr5⟩⟩, xi_Mismatch := exi5, C_TooLarge := eC6, E_TooLarge := ⟨PySem.W.mg_of X G ea6, ⟨⟨_, _, _, _, _, _, _, _, _, _, _, _, _, _, _, el6, er6⟩, esa6, eex6, ety6, ekp6⟩, ⟨ega6, egg6, eex6, ehd6⟩, ⟨ega6, egg6, eex6, ehd6, eca6, sp1, sp2, emr6⟩⟩, I_TooLarge := eI6, fdI_TooLarge := _, FI_TooLarge := FI6, bI_TooLarge := bI6, iI_TooLarge := iI6, tI_TooLarge := tI6, no_TooLarge_what := eno6_what, no_TooLarge_limit := eno6_limit, C_NoMove := eC7, E_NoMove := ⟨PySem.W.mg_of X G ea7, ⟨⟨_, _, _, _, _, _, _, _, _, _, _, _, _, _, _, el7, er7⟩, esa7, eex7, ety7, ekp7⟩, ⟨ega7, egg7, eex7, ehd7⟩, ⟨ega7, egg7, eex7, ehd7, eca7, sp1, sp2, emr7⟩⟩, I_NoMove := eI7, fdI_NoMove := _, FI_NoMove := FI7, bI_NoMove := bI7, iI_NoMove := iI7, tI_NoMove := tI7, no_NoMove_letter := eno7_letter, C_NotFinal := eC8, E_NotFinal := ⟨PySem.W.mg_of X G ea8, ⟨⟨_, _, _, _, _, _, _, _, _, _, _, _, _, _, _, el8, er8⟩, esa8, eex8, ety8, ekp8⟩, ⟨ega8, egg8, eex8, ehd8⟩, ⟨ega8, egg8, eex8, ehd8, eca8, sp1, sp2, emr8⟩⟩, xi_NotFinal := exi8, C_Closed := eC9, E_Closed := ⟨PySem.W.mg_of X G ea9, ⟨⟨_, _, _, _, _, _, _, _, _, _, _, _, _, _, _, el9, er9⟩, esa9, eex9, ety9, ekp9⟩, ⟨ega9, egg9, eex9, ehd9⟩, ⟨ega9, egg9, eex9, ehd9, eca9, sp1, sp2, emr9⟩⟩, xi_Closed := exi9, C_NothingToUndo := eC10, E_NothingToUndo := ⟨PySem.W.mg_of X G ea10, ⟨⟨_, _, _, _, _, _, _, _, _, _, _, _, _, _, _, el10, er10⟩, esa10, eex10, ety10, ekp10⟩, ⟨ega10, egg10, eex10, ehd10⟩, ⟨ega10, egg10, eex10, ehd10, eca10, sp1, sp2, emr10⟩⟩, xi_NothingToUndo := exi10, C_Session := oC0, cl_Session := ⟨opg0, ohd0, opo0, osa0⟩, mg_Session := PySem.W.mg_of X G oa0, no_Session__reader := on0__reader, no_Session__alphabet := on0__alphabet, no_Session__first := on0__first, no_Session__lines := on0__lines, no_Session__lasts := on0__lasts, no_Session__pushed := on0__pushed, no_Session__states := on0__states, no_Session__closed := on0__closed, C_Reader := oC1, cl_Reader := ⟨opg1, ohd1, opo1, osa1⟩, mg_Reader := PySem.W.mg_of X G oa1, no_Reader__read := on1__read, no_Reader__write := on1__write, no_Reader__first := on1__first, no_Reader__moves := on1__moves, no_Reader__finals := on1__finals, f_Session___init__ := mf0, fd_Session___init__ := _, F_Session___init__ := MF0, M_Session := ⟨omk0, ma0, mi0, okc0⟩, kr_Session_0 := .nil, kb_Session_0 := mb0_0, f_Session_state := mf1, fd_Session_state := _, F_Session_state := MF1, b_Session_state := mb1, pa_Session_state := mp1, p_Session_state := ⟨ma1, mgt1, mtk1, ⟨_, mrc1⟩⟩, f_Session_taken := mf2, fd_Session_taken := _, F_Session_taken := MF2, b_Session_taken := mb2, pa_Session_taken := mp2, p_Session_taken := ⟨ma2, mgt2, mtk2, ⟨_, mrc2⟩⟩, f_Session_written := mf3, fd_Session_written := _, F_Session_written := MF3, b_Session_written := mb3, pa_Session_written := mp3, p_Session_written := ⟨ma3, mgt3, mtk3, ⟨_, mrc3⟩⟩, f_Session_held := mf4, fd_Session_held := _, F_Session_held := MF4, b_Session_held := mb4, pa_Session_held := mp4, p_Session_held := ⟨ma4, mgt4, mtk4, ⟨_, mrc4⟩⟩, f_Session_closed := mf5, fd_Session_closed := _, F_Session_closed := MF5, b_Session_closed := mb5, pa_Session_closed := mp5, p_Session_closed := ⟨ma5, mgt5, mtk5, ⟨_, mrc5⟩⟩, f_Session___len__ := mf6, fd_Session___len__ := _, F_Session___len__ := MF6, b_Session___len__ := mb6, h_Session___len__ := ma6, i_Session___len__ := mi6, f_Session___iter__ := mf7, fd_Session___iter__ := _, F_Session___iter__ := MF7, b_Session___iter__ := mb7, h_Session___iter__ := ma7, i_Session___iter__ := mi7, f_Session_push := mf8, fd_Session_push := _, F_Session_push := MF8, b_Session_push := mb8, m_Session_push := ⟨ma8, mi8, mk8⟩, f_Session_reads := mf9, fd_Session_reads := _, F_Session_reads := MF9, b_Session_reads := mb9, m_Session_reads := ⟨ma9, mi9, mk9⟩, f_Session_close := mf10, fd_Session_close := _, F_Session_close := MF10, b_Session_close := mb10, m_Session_close := ⟨ma10, mi10, mk10⟩, f_Session_back := mf11, fd_Session_back := _, F_Session_back := MF11, b_Session_back := mb11, m_Session_back := ⟨ma11, mi11, mk11⟩, f_Session_twin := mf12, fd_Session_twin := _, F_Session_twin := MF12, b_Session_twin := mb12, m_Session_twin := ⟨ma12, mi12, mk12⟩, f_Reader___init__ := mf13, fd_Reader___init__ := _, F_Reader___init__ := MF13, M_Reader := ⟨omk1, ma13, mi13, okc1⟩, kr_Reader_0 := .nil, kb_Reader_0 := mb13_0, f_Reader_read := mf14, fd_Reader_read := _, F_Reader_read := MF14, b_Reader_read := mb14, pa_Reader_read := mp14, p_Reader_read := ⟨ma14, mgt14, mtk14, ⟨_, mrc14⟩⟩, f_Reader_write := mf15, fd_Reader_write := _, F_Reader_write := MF15, b_Reader_write := mb15, pa_Reader_write := mp15, p_Reader_write := ⟨ma15, mgt15, mtk15, ⟨_, mrc15⟩⟩, f_Reader_first := mf16, fd_Reader_first := _, F_Reader_first := MF16, b_Reader_first := mb16, pa_Reader_first := mp16, p_Reader_first := ⟨ma16, mgt16, mtk16, ⟨_, mrc16⟩⟩, f_Reader_moves := mf17, fd_Reader_moves := _, F_Reader_moves := MF17, b_Reader_moves := mb17, pa_Reader_moves := mp17, p_Reader_moves := ⟨ma17, mgt17, mtk17, ⟨_, mrc17⟩⟩, f_Reader_finals := mf18, fd_Reader_finals := _, F_Reader_finals := MF18, b_Reader_finals := mb18, pa_Reader_finals := mp18, p_Reader_finals := ⟨ma18, mgt18, mtk18, ⟨_, mrc18⟩⟩, f_Reader___len__ := mf19, fd_Reader___len__ := _, F_Reader___len__ := MF19, b_Reader___len__ := mb19, h_Reader___len__ := ma19, i_Reader___len__ := mi19, f_Reader___rshift__ := mf20, fd_Reader___rshift__ := _, F_Reader___rshift__ := MF20, b_Reader___rshift__ := mb20, h_Reader___rshift__ := ma20, i_Reader___rshift__ := mi20, f_Reader_state_after := mf21, fd_Reader_state_after := _, F_Reader_state_after := MF21, b_Reader_state_after := mb21, m_Reader_state_after := ⟨ma21, mi21, mk21⟩, f_Reader_written_after := mf22, fd_Reader_written_after := _, F_Reader_written_after := MF22, b_Reader_written_after := mb22, m_Reader_written_after := ⟨ma22, mi22, mk22⟩, f_Reader_tell := mf23, fd_Reader_tell := _, F_Reader_tell := MF23, b_Reader_tell := mb23, m_Reader_tell := ⟨ma23, mi23, mk23⟩, f_Reader_tail := mf24, fd_Reader_tail := _, F_Reader_tail := MF24, b_Reader_tail := mb24, m_Reader_tail := ⟨ma24, mi24, mk24⟩, k_BadLetters_BadWord := kitN cl_BadWord ety2 s_BadLetters_BadWord ss_BadWord, k_BadLetters_Closed := kitN cl_Closed ety9 s_BadLetters_Closed ss_Closed, k_BadLetters_NoMove := kitN cl_NoMove ety7 s_BadLetters_NoMove ss_NoMove, k_BadLetters_NotFinal := kitN cl_NotFinal ety8 s_BadLetters_NotFinal ss_NotFinal, k_BadLetters_NothingToUndo := kitN cl_NothingToUndo ety10 s_BadLetters_NothingToUndo ss_NothingToUndo, k_BadLetters_BadLetters := kitY cl_BadLetters ety1 ss_BadLetters, k_BadLetters_BadNumber := kitN cl_BadNumber ety3 s_BadLetters_BadNumber ss_BadNumber, k_BadLetters_Mismatch := kitN cl_Mismatch ety5 s_BadLetters_Mismatch ss_Mismatch, k_BadLetters_TooLarge := kitN cl_TooLarge ety6 s_BadLetters_TooLarge ss_TooLarge, k_BadLetters_ValueError := kitB (by decide +kernel) s_BadLetters_ValueError, x_BadLetters_LagError := exmR eex0 cl_LagError ety0 s_BadLetters_LagError, k_BadWord_BadWord := kitY cl_BadWord ety2 ss_BadWord, k_BadWord_Closed := kitN cl_Closed ety9 s_BadWord_Closed ss_Closed, k_BadWord_NoMove := kitN cl_NoMove ety7 s_BadWord_NoMove ss_NoMove, k_BadWord_NotFinal := kitN cl_NotFinal ety8 s_BadWord_NotFinal ss_NotFinal, k_BadWord_NothingToUndo := kitN cl_NothingToUndo ety10 s_BadWord_NothingToUndo ss_NothingToUndo, k_BadWord_BadLetters := kitN cl_BadLetters ety1 s_BadWord_BadLetters ss_BadLetters, k_BadWord_BadNumber := kitN cl_BadNumber ety3 s_BadWord_BadNumber ss_BadNumber, k_BadWord_Mismatch := kitN cl_Mismatch ety5 s_BadWord_Mismatch ss_Mismatch, k_BadWord_TooLarge := kitN cl_TooLarge ety6 s_BadWord_TooLarge ss_TooLarge, k_BadWord_ValueError := kitB (by decide +kernel) s_BadWord_ValueError, x_BadWord_LagError := exmR eex0 cl_LagError ety0 s_BadWord_LagError, k_TooLarge_BadWord := kitN cl_BadWord ety2 s_TooLarge_BadWord ss_BadWord, k_TooLarge_Closed := kitN cl_Closed ety9 s_TooLarge_Closed ss_Closed, k_TooLarge_NoMove := kitN cl_NoMove ety7 s_TooLarge_NoMove ss_NoMove, k_TooLarge_NotFinal := kitN cl_NotFinal ety8 s_TooLarge_NotFinal ss_NotFinal, k_TooLarge_NothingToUndo := kitN cl_NothingToUndo ety10 s_TooLarge_NothingToUndo ss_NothingToUndo, k_TooLarge_BadLetters := kitN cl_BadLetters ety1 s_TooLarge_BadLetters ss_BadLetters, k_TooLarge_BadNumber := kitN cl_BadNumber ety3 s_TooLarge_BadNumber ss_BadNumber, k_TooLarge_Mismatch := kitN cl_Mismatch ety5 s_TooLarge_Mismatch ss_Mismatch, k_TooLarge_TooLarge := kitY cl_TooLarge ety6 ss_TooLarge, k_TooLarge_ValueError := kitB (by decide +kernel) s_TooLarge_ValueError, x_TooLarge_LagError := exmR eex0 cl_LagError ety0 s_TooLarge_LagError, k_BadEntry_BadWord := kitN cl_BadWord ety2 s_BadEntry_BadWord ss_BadWord, k_BadEntry_Closed := kitN cl_Closed ety9 s_BadEntry_Closed ss_Closed, k_BadEntry_NoMove := kitN cl_NoMove ety7 s_BadEntry_NoMove ss_NoMove, k_BadEntry_NotFinal := kitN cl_NotFinal ety8 s_BadEntry_NotFinal ss_NotFinal, k_BadEntry_NothingToUndo := kitN cl_NothingToUndo ety10 s_BadEntry_NothingToUndo ss_NothingToUndo, k_BadEntry_BadLetters := kitN cl_BadLetters ety1 s_BadEntry_BadLetters ss_BadLetters, k_BadEntry_BadNumber := kitN cl_BadNumber ety3 s_BadEntry_BadNumber ss_BadNumber, k_BadEntry_Mismatch := kitN cl_Mismatch ety5 s_BadEntry_Mismatch ss_Mismatch, k_BadEntry_TooLarge := kitN cl_TooLarge ety6 s_BadEntry_TooLarge ss_TooLarge, k_BadEntry_ValueError := kitB (by decide +kernel) s_BadEntry_ValueError, x_BadEntry_LagError := exmR eex0 cl_LagError ety0 s_BadEntry_LagError, k_Mismatch_BadWord := kitN cl_BadWord ety2 s_Mismatch_BadWord ss_BadWord, k_Mismatch_Closed := kitN cl_Closed ety9 s_Mismatch_Closed ss_Closed, k_Mismatch_NoMove := kitN cl_NoMove ety7 s_Mismatch_NoMove ss_NoMove, k_Mismatch_NotFinal := kitN cl_NotFinal ety8 s_Mismatch_NotFinal ss_NotFinal, k_Mismatch_NothingToUndo := kitN cl_NothingToUndo ety10 s_Mismatch_NothingToUndo ss_NothingToUndo, k_Mismatch_BadLetters := kitN cl_BadLetters ety1 s_Mismatch_BadLetters ss_BadLetters, k_Mismatch_BadNumber := kitN cl_BadNumber ety3 s_Mismatch_BadNumber ss_BadNumber, k_Mismatch_Mismatch := kitY cl_Mismatch ety5 ss_Mismatch, k_Mismatch_TooLarge := kitN cl_TooLarge ety6 s_Mismatch_TooLarge ss_TooLarge, k_Mismatch_ValueError := kitB (by decide +kernel) s_Mismatch_ValueError, x_Mismatch_LagError := exmR eex0 cl_LagError ety0 s_Mismatch_LagError, k_Closed_BadWord := kitN cl_BadWord ety2 s_Closed_BadWord ss_BadWord, k_Closed_Closed := kitY cl_Closed ety9 ss_Closed, k_Closed_NoMove := kitN cl_NoMove ety7 s_Closed_NoMove ss_NoMove, k_Closed_NotFinal := kitN cl_NotFinal ety8 s_Closed_NotFinal ss_NotFinal, k_Closed_NothingToUndo := kitN cl_NothingToUndo ety10 s_Closed_NothingToUndo ss_NothingToUndo, k_Closed_BadLetters := kitN cl_BadLetters ety1 s_Closed_BadLetters ss_BadLetters, k_Closed_BadNumber := kitN cl_BadNumber ety3 s_Closed_BadNumber ss_BadNumber, k_Closed_Mismatch := kitN cl_Mismatch ety5 s_Closed_Mismatch ss_Mismatch, k_Closed_TooLarge := kitN cl_TooLarge ety6 s_Closed_TooLarge ss_TooLarge, k_Closed_ValueError := kitB (by decide +kernel) s_Closed_ValueError, x_Closed_LagError := exmR eex0 cl_LagError ety0 s_Closed_LagError, k_NoMove_BadWord := kitN cl_BadWord ety2 s_NoMove_BadWord ss_BadWord, k_NoMove_Closed := kitN cl_Closed ety9 s_NoMove_Closed ss_Closed, k_NoMove_NoMove := kitY cl_NoMove ety7 ss_NoMove, k_NoMove_NotFinal := kitN cl_NotFinal ety8 s_NoMove_NotFinal ss_NotFinal, k_NoMove_NothingToUndo := kitN cl_NothingToUndo ety10 s_NoMove_NothingToUndo ss_NothingToUndo, k_NoMove_BadLetters := kitN cl_BadLetters ety1 s_NoMove_BadLetters ss_BadLetters, k_NoMove_BadNumber := kitN cl_BadNumber ety3 s_NoMove_BadNumber ss_BadNumber, k_NoMove_Mismatch := kitN cl_Mismatch ety5 s_NoMove_Mismatch ss_Mismatch, k_NoMove_TooLarge := kitN cl_TooLarge ety6 s_NoMove_TooLarge ss_TooLarge, k_NoMove_ValueError := kitB (by decide +kernel) s_NoMove_ValueError, x_NoMove_LagError := exmR eex0 cl_LagError ety0 s_NoMove_LagError, k_NotFinal_BadWord := kitN cl_BadWord ety2 s_NotFinal_BadWord ss_BadWord, k_NotFinal_Closed := kitN cl_Closed ety9 s_NotFinal_Closed ss_Closed, k_NotFinal_NoMove := kitN cl_NoMove ety7 s_NotFinal_NoMove ss_NoMove, k_NotFinal_NotFinal := kitY cl_NotFinal ety8 ss_NotFinal, k_NotFinal_NothingToUndo := kitN cl_NothingToUndo ety10 s_NotFinal_NothingToUndo ss_NothingToUndo, k_NotFinal_BadLetters := kitN cl_BadLetters ety1 s_NotFinal_BadLetters ss_BadLetters, k_NotFinal_BadNumber := kitN cl_BadNumber ety3 s_NotFinal_BadNumber ss_BadNumber, k_NotFinal_Mismatch := kitN cl_Mismatch ety5 s_NotFinal_Mismatch ss_Mismatch, k_NotFinal_TooLarge := kitN cl_TooLarge ety6 s_NotFinal_TooLarge ss_TooLarge, k_NotFinal_ValueError := kitB (by decide +kernel) s_NotFinal_ValueError, x_NotFinal_LagError := exmR eex0 cl_LagError ety0 s_NotFinal_LagError, k_NothingToUndo_BadWord := kitN cl_BadWord ety2 s_NothingToUndo_BadWord ss_BadWord, k_NothingToUndo_Closed := kitN cl_Closed ety9 s_NothingToUndo_Closed ss_Closed, k_NothingToUndo_NoMove := kitN cl_NoMove ety7 s_NothingToUndo_NoMove ss_NoMove, k_NothingToUndo_NotFinal := kitN cl_NotFinal ety8 s_NothingToUndo_NotFinal ss_NotFinal, k_NothingToUndo_NothingToUndo := kitY cl_NothingToUndo ety10 ss_NothingToUndo, k_NothingToUndo_BadLetters := kitN cl_BadLetters ety1 s_NothingToUndo_BadLetters ss_BadLetters, k_NothingToUndo_BadNumber := kitN cl_BadNumber ety3 s_NothingToUndo_BadNumber ss_BadNumber, k_NothingToUndo_Mismatch := kitN cl_Mismatch ety5 s_NothingToUndo_Mismatch ss_Mismatch, k_NothingToUndo_TooLarge := kitN cl_TooLarge ety6 s_NothingToUndo_TooLarge ss_TooLarge, k_NothingToUndo_ValueError := kitB (by decide +kernel) s_NothingToUndo_ValueError, x_NothingToUndo_LagError := exmR eex0 cl_LagError ety0 s_NothingToUndo_LagError, z_ValueError := PySem.W.mg_none_of X G z_ValueError, z_all := PySem.W.mg_none_of X G z_all, z_any := PySem.W.mg_none_of X G z_any, z_bool := PySem.W.mg_none_of X G z_bool, z_enumerate := PySem.W.mg_none_of X G z_enumerate, z_int := PySem.W.mg_none_of X G z_int, z_isinstance := PySem.W.mg_none_of X G z_isinstance, z_iter := PySem.W.mg_none_of X G z_iter, z_len := PySem.W.mg_none_of X G z_len, z_list := PySem.W.mg_none_of X G z_list, z_max := PySem.W.mg_none_of X G z_max, z_min := PySem.W.mg_none_of X G z_min, z_range := PySem.W.mg_none_of X G z_range, z_set := PySem.W.mg_none_of X G z_set, z_sorted := PySem.W.mg_none_of X G z_sorted, z_str := PySem.W.mg_none_of X G z_str, z_tuple := PySem.W.mg_none_of X G z_tuple, t_MAX_LETTERS := t_MAX_LETTERS, c_MAX_LETTERS := PySem.W.mg_of X G c_MAX_LETTERS, t_MAX_READ := t_MAX_READ, c_MAX_READ := PySem.W.mg_of X G c_MAX_READ, t_MAX_WRITTEN := t_MAX_WRITTEN, c_MAX_WRITTEN := PySem.W.mg_of X G c_MAX_WRITTEN, t_MAX_STATES := t_MAX_STATES, c_MAX_STATES := PySem.W.mg_of X G c_MAX_STATES, t_SMALL_LETTERS := t_SMALL_LETTERS, c_SMALL_LETTERS := PySem.W.mg_of X G c_SMALL_LETTERS }⟩
end Lb
open PySem PySem.W PyProof.Rows
set_option maxHeartbeats 0 in
theorem PySem.Challenge.cw_lagbound_k75_back_takes_back_holds : PySem.Challenge.rw_lagbound_k75_back_takes_back.Holds := by
  w_on; o_law; k_head; (case hw => w_witness2)
  k_fill
  refine Lb.walk_tabs (l := PySem.Challenge.rw_lagbound_k75_back_takes_back) (n := 63) (k := 15 + 1) (x := "script") (CX := fun _ => L2.CX0) rfl (by decide) rfl ⟨rfl, by decide, by decide⟩ (fun w h Y => by first | exact PySem.W.kIn_of Y | exact Y.1) ?F (fun _ _ _ _ _ h => h)
  case F =>
    intro w mg fa h KX G hmg E
    refine' Lb.all_mk KX G hmg E ?a0 ?l0 ?k0 ?c_0 ?a1 ?l1 ?k1 ?c_1 ?a2 ?l2 ?k2 ?c_2 ?a3 ?l3 ?k3 ?c_3 ?r3 ?p3 ?n3 ?h3 ?y3 ?a4 ?l4 ?k4 ?c_4 ?a5 ?l5 ?k5 ?c_5 ?r5 ?p5 ?n5 ?h5 ?y5 ?a6 ?l6 ?k6 ?c_6 ?a7 ?l7 ?k7 ?c_7 ?a8 ?l8 ?k8 ?c_8 ?a9 ?l9 ?k9 ?c_9 ?a10 ?l10 ?k10 ?c_10 ?r10 ?p10 ?n10 ?h10 ?y10 ?a11 ?l11 ?k11 ?c_11 ?a12 ?l12 ?k12 ?c_12 ?r12 ?p12 ?n12 ?h12 ?y12 ?a13 ?l13 ?k13 ?c_13 ?a14 ?l14 ?k14 ?c_14 ?a15 ?l15 ?k15 ?c_15 ?a16 ?l16 ?k16 ?c_16 ?a17 ?l17 ?k17 ?c_17 ?a18 ?l18 ?k18 ?c_18 ?a19 ?l19 ?k19 ?c_19 ?a20 ?l20 ?k20 ?c_20 ?a21 ?l21 ?k21 ?c_21 ?a22 ?l22 ?k22 ?c_22 ?a23 ?l23 ?k23 ?c_23 ?a24 ?l24 ?k24 ?c_24 ?a25 ?l25 ?k25 ?c_25 ?a26 ?l26 ?k26 ?c_26 ?a27 ?l27 ?k27 ?c_27 ?a28 ?l28 ?k28 ?c_28 ?a29 ?l29 ?k29 ?c_29 ?a30 ?l30 ?k30 ?c_30 ?a31 ?l31 ?k31 ?c_31 ?a32 ?l32 ?k32 ?c_32 ?a33 ?l33 ?k33 ?c_33 ?a34 ?l34 ?k34 ?c_34 ?a35 ?l35 ?k35 ?c_35 ?a36 ?l36 ?k36 ?c_36 ?a37 ?l37 ?k37 ?c_37 ?a38 ?l38 ?k38 ?c_38 ?a39 ?l39 ?k39 ?c_39 ?a40 ?l40 ?k40 ?c_40 ?a41 ?l41 ?k41 ?c_41 ?a42 ?l42 ?k42 ?c_42 ?a43 ?l43 ?k43 ?c_43 ?a44 ?l44 ?k44 ?c_44 ?a45 ?l45 ?k45 ?c_45 ?a46 ?l46 ?k46 ?c_46 ?a47 ?l47 ?k47 ?c_47 ?a48 ?l48 ?k48 ?c_48 ?sp1 ?sp2 ?ea0 ?el0 ?er0 ?esa0 ?eex0 ?ety0 ?ekp0 ?ega0 ?egg0 ?ehd0 ?eca0 ?emr0 ?ea1 ?el1 ?er1 ?esa1 ?eex1 ?ety1 ?ekp1 ?ega1 ?egg1 ?ehd1 ?eca1 ?emr1 ?iI1 ?tI1 ?lI1 ?cI1 ?kI1 ?eno1_value ?ea2 ?el2 ?er2 ?esa2 ?eex2 ?ety2 ?ekp2 ?ega2 ?egg2 ?ehd2 ?eca2 ?emr2 ?iI2 ?tI2 ?lI2 ?cI2 ?kI2 ?eno2_value ?ea3 ?el3 ?er3 ?esa3 ?eex3 ?ety3 ?ekp3 ?ega3 ?egg3 ?ehd3 ?eca3 ?emr3 ?iI3 ?tI3 ?lI3 ?cI3 ?kI3 ?eno3_value ?ea4 ?el4 ?er4 ?esa4 ?eex4 ?ety4 ?ekp4 ?ega4 ?egg4 ?ehd4 ?eca4 ?emr4 ?iI4 ?tI4 ?lI4 ?cI4 ?kI4 ?eno4_place ?eno4_index ?ea5 ?el5 ?er5 ?esa5 ?eex5 ?ety5 ?ekp5 ?ega5 ?egg5 ?ehd5 ?eca5 ?emr5 ?exi5 ?ea6 ?el6 ?er6 ?esa6 ?eex6 ?ety6 ?ekp6 ?ega6 ?egg6 ?ehd6 ?eca6 ?emr6 ?iI6 ?tI6 ?lI6 ?cI6 ?kI6 ?eno6_what ?eno6_limit ?ea7 ?el7 ?er7 ?esa7 ?eex7 ?ety7 ?ekp7 ?ega7 ?egg7 ?ehd7 ?eca7 ?emr7 ?iI7 ?tI7 ?lI7 ?cI7 ?kI7 ?eno7_letter ?ea8 ?el8 ?er8 ?esa8 ?eex8 ?ety8 ?ekp8 ?ega8 ?egg8 ?ehd8 ?eca8 ?emr8 ?exi8 ?ea9 ?el9 ?er9 ?esa9 ?eex9 ?ety9 ?ekp9 ?ega9 ?egg9 ?ehd9 ?eca9 ?emr9 ?exi9 ?ea10 ?el10 ?er10 ?esa10 ?eex10 ?ety10 ?ekp10 ?ega10 ?egg10 ?ehd10 ?eca10 ?emr10 ?exi10 ?cl_BadWord ?ss_BadWord ?cl_Closed ?ss_Closed ?cl_NoMove ?ss_NoMove ?cl_NotFinal ?ss_NotFinal ?cl_NothingToUndo ?ss_NothingToUndo ?cl_BadLetters ?ss_BadLetters ?cl_BadNumber ?ss_BadNumber ?cl_Mismatch ?ss_Mismatch ?cl_TooLarge ?ss_TooLarge ?cl_LagError ?ss_LagError ?s_BadLetters_BadWord ?s_BadLetters_Closed ?s_BadLetters_NoMove ?s_BadLetters_NotFinal ?s_BadLetters_NothingToUndo ?s_BadLetters_BadNumber ?s_BadLetters_Mismatch ?s_BadLetters_TooLarge ?s_BadLetters_ValueError ?s_BadLetters_LagError ?s_BadWord_Closed ?s_BadWord_NoMove ?s_BadWord_NotFinal ?s_BadWord_NothingToUndo ?s_BadWord_BadLetters ?s_BadWord_BadNumber ?s_BadWord_Mismatch ?s_BadWord_TooLarge ?s_BadWord_ValueError ?s_BadWord_LagError ?s_TooLarge_BadWord ?s_TooLarge_Closed ?s_TooLarge_NoMove ?s_TooLarge_NotFinal ?s_TooLarge_NothingToUndo ?s_TooLarge_BadLetters ?s_TooLarge_BadNumber ?s_TooLarge_Mismatch ?s_TooLarge_ValueError ?s_TooLarge_LagError ?s_BadEntry_BadWord ?s_BadEntry_Closed ?s_BadEntry_NoMove ?s_BadEntry_NotFinal ?s_BadEntry_NothingToUndo ?s_BadEntry_BadLetters ?s_BadEntry_BadNumber ?s_BadEntry_Mismatch ?s_BadEntry_TooLarge ?s_BadEntry_ValueError ?s_BadEntry_LagError ?s_Mismatch_BadWord ?s_Mismatch_Closed ?s_Mismatch_NoMove ?s_Mismatch_NotFinal ?s_Mismatch_NothingToUndo ?s_Mismatch_BadLetters ?s_Mismatch_BadNumber ?s_Mismatch_TooLarge ?s_Mismatch_ValueError ?s_Mismatch_LagError ?s_Closed_BadWord ?s_Closed_NoMove ?s_Closed_NotFinal ?s_Closed_NothingToUndo ?s_Closed_BadLetters ?s_Closed_BadNumber ?s_Closed_Mismatch ?s_Closed_TooLarge ?s_Closed_ValueError ?s_Closed_LagError ?s_NoMove_BadWord ?s_NoMove_Closed ?s_NoMove_NotFinal ?s_NoMove_NothingToUndo ?s_NoMove_BadLetters ?s_NoMove_BadNumber ?s_NoMove_Mismatch ?s_NoMove_TooLarge ?s_NoMove_ValueError ?s_NoMove_LagError ?s_NotFinal_BadWord ?s_NotFinal_Closed ?s_NotFinal_NoMove ?s_NotFinal_NothingToUndo ?s_NotFinal_BadLetters ?s_NotFinal_BadNumber ?s_NotFinal_Mismatch ?s_NotFinal_TooLarge ?s_NotFinal_ValueError ?s_NotFinal_LagError ?s_NothingToUndo_BadWord ?s_NothingToUndo_Closed ?s_NothingToUndo_NoMove ?s_NothingToUndo_NotFinal ?s_NothingToUndo_BadLetters ?s_NothingToUndo_BadNumber ?s_NothingToUndo_Mismatch ?s_NothingToUndo_TooLarge ?s_NothingToUndo_ValueError ?s_NothingToUndo_LagError ?oa0 ?opg0 ?ohd0 ?opo0 ?osa0 ?omk0 ?okc0 ?on0__reader ?on0__alphabet ?on0__first ?on0__lines ?on0__lasts ?on0__pushed ?on0__states ?on0__closed ?oa1 ?opg1 ?ohd1 ?opo1 ?osa1 ?omk1 ?okc1 ?on1__read ?on1__write ?on1__first ?on1__moves ?on1__finals ?ma0 ?mi0 ?ml0 ?mc0 ?mk0 ?ma1 ?mgt1 ?mtk1 ?mrc1 ?ml1 ?mc1 ?mk1 ?ma2 ?mgt2 ?mtk2 ?mrc2 ?ml2 ?mc2 ?mk2 ?ma3 ?mgt3 ?mtk3 ?mrc3 ?ml3 ?mc3 ?mk3 ?ma4 ?mgt4 ?mtk4 ?mrc4 ?ml4 ?mc4 ?mk4 ?ma5 ?mgt5 ?mtk5 ?mrc5 ?ml5 ?mc5 ?mk5 ?ma6 ?mi6 ?ml6 ?mc6 ?mk6 ?ma7 ?mi7 ?ml7 ?mc7 ?mk7 ?ma8 ?mi8 ?ml8 ?mc8 ?mk8 ?ma9 ?mi9 ?ml9 ?mc9 ?mk9 ?ma10 ?mi10 ?ml10 ?mc10 ?mk10 ?ma11 ?mi11 ?ml11 ?mc11 ?mk11 ?ma12 ?mi12 ?ml12 ?mc12 ?mk12 ?ma13 ?mi13 ?ml13 ?mc13 ?mk13 ?ma14 ?mgt14 ?mtk14 ?mrc14 ?ml14 ?mc14 ?mk14 ?ma15 ?mgt15 ?mtk15 ?mrc15 ?ml15 ?mc15 ?mk15 ?ma16 ?mgt16 ?mtk16 ?mrc16 ?ml16 ?mc16 ?mk16 ?ma17 ?mgt17 ?mtk17 ?mrc17 ?ml17 ?mc17 ?mk17 ?ma18 ?mgt18 ?mtk18 ?mrc18 ?ml18 ?mc18 ?mk18 ?ma19 ?mi19 ?ml19 ?mc19 ?mk19 ?ma20 ?mi20 ?ml20 ?mc20 ?mk20 ?ma21 ?mi21 ?ml21 ?mc21 ?mk21 ?ma22 ?mi22 ?ml22 ?mc22 ?mk22 ?ma23 ?mi23 ?ml23 ?mc23 ?mk23 ?ma24 ?mi24 ?ml24 ?mc24 ?mk24 ?z_ValueError ?z_all ?z_any ?z_bool ?z_enumerate ?z_int ?z_isinstance ?z_iter ?z_len ?z_list ?z_max ?z_min ?z_range ?z_set ?z_sorted ?z_str ?z_tuple ?c_MAX_LETTERS ?c_MAX_READ ?c_MAX_WRITTEN ?c_MAX_STATES ?c_SMALL_LETTERS ?one
    (case a0 => k_is)
    (case l0 => k_is)
    (case k0 => k_is)
    (case c_0 => k_is)
    (case a1 => k_is)
    (case l1 => k_is)
    (case k1 => k_is)
    (case c_1 => k_is)
    (case a2 => k_is)
    (case l2 => k_is)
    (case k2 => k_is)
    (case c_2 => k_is)
    (case a3 => k_is)
    (case l3 => k_is)
    (case k3 => k_is)
    (case c_3 => k_is)
    (case r3 => k_is)
    (case p3 => first | rfl | k_is)
    (case n3 => first | k_is | rfl | decide +kernel)
    (case h3 => kernel_rfl)
    (case y3 => decide +kernel)
    (case a4 => k_is)
    (case l4 => k_is)
    (case k4 => k_is)
    (case c_4 => k_is)
    (case a5 => k_is)
    (case l5 => k_is)
    (case k5 => k_is)
    (case c_5 => k_is)
    (case r5 => k_is)
    (case p5 => first | rfl | k_is)
    (case n5 => first | k_is | rfl | decide +kernel)
    (case h5 => kernel_rfl)
    (case y5 => decide +kernel)
    (case a6 => k_is)
    (case l6 => k_is)
    (case k6 => k_is)
    (case c_6 => k_is)
    (case a7 => k_is)
    (case l7 => k_is)
    (case k7 => k_is)
    (case c_7 => k_is)
    (case a8 => k_is)
    (case l8 => k_is)
    (case k8 => k_is)
    (case c_8 => k_is)
    (case a9 => k_is)
    (case l9 => k_is)
    (case k9 => k_is)
    (case c_9 => k_is)
    (case a10 => k_is)
    (case l10 => k_is)
    (case k10 => k_is)
    (case c_10 => k_is)
    (case r10 => k_is)
    (case p10 => first | rfl | k_is)
    (case n10 => first | k_is | rfl | decide +kernel)
    (case h10 => kernel_rfl)
    (case y10 => decide +kernel)
    (case a11 => k_is)
    (case l11 => k_is)
    (case k11 => k_is)
    (case c_11 => k_is)
    (case a12 => k_is)
    (case l12 => k_is)
    (case k12 => k_is)
    (case c_12 => k_is)
    (case r12 => k_is)
    (case p12 => first | rfl | k_is)
    (case n12 => first | k_is | rfl | decide +kernel)
    (case h12 => kernel_rfl)
    (case y12 => decide +kernel)
    (case a13 => k_is)
    (case l13 => k_is)
    (case k13 => k_is)
    (case c_13 => k_is)
    (case a14 => k_is)
    (case l14 => k_is)
    (case k14 => k_is)
    (case c_14 => k_is)
    (case a15 => k_is)
    (case l15 => k_is)
    (case k15 => k_is)
    (case c_15 => k_is)
    (case a16 => k_is)
    (case l16 => k_is)
    (case k16 => k_is)
    (case c_16 => k_is)
    (case a17 => k_is)
    (case l17 => k_is)
    (case k17 => k_is)
    (case c_17 => k_is)
    (case a18 => k_is)
    (case l18 => k_is)
    (case k18 => k_is)
    (case c_18 => k_is)
    (case a19 => k_is)
    (case l19 => k_is)
    (case k19 => k_is)
    (case c_19 => k_is)
    (case a20 => k_is)
    (case l20 => k_is)
    (case k20 => k_is)
    (case c_20 => k_is)
    (case a21 => k_is)
    (case l21 => k_is)
    (case k21 => k_is)
    (case c_21 => k_is)
    (case a22 => k_is)
    (case l22 => k_is)
    (case k22 => k_is)
    (case c_22 => k_is)
    (case a23 => k_is)
    (case l23 => k_is)
    (case k23 => k_is)
    (case c_23 => k_is)
    (case a24 => k_is)
    (case l24 => k_is)
    (case k24 => k_is)
    (case c_24 => k_is)
    (case a25 => k_is)
    (case l25 => k_is)
    (case k25 => k_is)
    (case c_25 => k_is)
    (case a26 => k_is)
    (case l26 => k_is)
    (case k26 => k_is)
    (case c_26 => k_is)
    (case a27 => k_is)
    (case l27 => k_is)
    (case k27 => k_is)
    (case c_27 => k_is)
    (case a28 => k_is)
    (case l28 => k_is)
    (case k28 => k_is)
    (case c_28 => k_is)
    (case a29 => k_is)
    (case l29 => k_is)
    (case k29 => k_is)
    (case c_29 => k_is)
    (case a30 => k_is)
    (case l30 => k_is)
    (case k30 => k_is)
    (case c_30 => k_is)
    (case a31 => k_is)
    (case l31 => k_is)
    (case k31 => k_is)
    (case c_31 => k_is)
    (case a32 => k_is)
    (case l32 => k_is)
    (case k32 => k_is)
    (case c_32 => k_is)
    (case a33 => k_is)
    (case l33 => k_is)
    (case k33 => k_is)
    (case c_33 => k_is)
    (case a34 => k_is)
    (case l34 => k_is)
    (case k34 => k_is)
    (case c_34 => k_is)
    (case a35 => k_is)
    (case l35 => k_is)
    (case k35 => k_is)
    (case c_35 => k_is)
    (case a36 => k_is)
    (case l36 => k_is)
    (case k36 => k_is)
    (case c_36 => k_is)
    (case a37 => k_is)
    (case l37 => k_is)
    (case k37 => k_is)
    (case c_37 => k_is)
    (case a38 => k_is)
    (case l38 => k_is)
    (case k38 => k_is)
    (case c_38 => k_is)
    (case a39 => k_is)
    (case l39 => k_is)
    (case k39 => k_is)
    (case c_39 => k_is)
    (case a40 => k_is)
    (case l40 => k_is)
    (case k40 => k_is)
    (case c_40 => k_is)
    (case a41 => k_is)
    (case l41 => k_is)
    (case k41 => k_is)
    (case c_41 => k_is)
    (case a42 => k_is)
    (case l42 => k_is)
    (case k42 => k_is)
    (case c_42 => k_is)
    (case a43 => k_is)
    (case l43 => k_is)
    (case k43 => k_is)
    (case c_43 => k_is)
    (case a44 => k_is)
    (case l44 => k_is)
    (case k44 => k_is)
    (case c_44 => k_is)
    (case a45 => k_is)
    (case l45 => k_is)
    (case k45 => k_is)
    (case c_45 => k_is)
    (case a46 => k_is)
    (case l46 => k_is)
    (case k46 => k_is)
    (case c_46 => k_is)
    (case a47 => k_is)
    (case l47 => k_is)
    (case k47 => k_is)
    (case c_47 => k_is)
    (case a48 => k_is)
    (case l48 => k_is)
    (case k48 => k_is)
    (case c_48 => k_is)
    (case sp1 => k_is)
    (case sp2 => k_is)
    (case ea0 => k_is)
    (case el0 => k_is)
    (case er0 => first | rfl | decide +kernel)
    (case esa0 => k_is)
    (case eex0 => k_is)
    (case ety0 => k_is)
    (case ekp0 => k_is)
    (case ega0 => k_is)
    (case egg0 => k_is)
    (case ehd0 => k_is)
    (case eca0 => k_is)
    (case emr0 => k_is)
    (case ea1 => k_is)
    (case el1 => k_is)
    (case er1 => first | rfl | decide +kernel)
    (case esa1 => k_is)
    (case eex1 => k_is)
    (case ety1 => k_is)
    (case ekp1 => k_is)
    (case ega1 => k_is)
    (case egg1 => k_is)
    (case ehd1 => k_is)
    (case eca1 => k_is)
    (case emr1 => k_is)
    (case iI1 => k_is)
    (case tI1 => k_is)
    (case lI1 => k_is)
    (case cI1 => k_is)
    (case kI1 => k_is)
    (case eno1_value => k_is)
    (case ea2 => k_is)
    (case el2 => k_is)
    (case er2 => first | rfl | decide +kernel)
    (case esa2 => k_is)
    (case eex2 => k_is)
    (case ety2 => k_is)
    (case ekp2 => k_is)
    (case ega2 => k_is)
    (case egg2 => k_is)
    (case ehd2 => k_is)
    (case eca2 => k_is)
    (case emr2 => k_is)
    (case iI2 => k_is)
    (case tI2 => k_is)
    (case lI2 => k_is)
    (case cI2 => k_is)
    (case kI2 => k_is)
    (case eno2_value => k_is)
    (case ea3 => k_is)
    (case el3 => k_is)
    (case er3 => first | rfl | decide +kernel)
    (case esa3 => k_is)
    (case eex3 => k_is)
    (case ety3 => k_is)
    (case ekp3 => k_is)
    (case ega3 => k_is)
    (case egg3 => k_is)
    (case ehd3 => k_is)
    (case eca3 => k_is)
    (case emr3 => k_is)
    (case iI3 => k_is)
    (case tI3 => k_is)
    (case lI3 => k_is)
    (case cI3 => k_is)
    (case kI3 => k_is)
    (case eno3_value => k_is)
    (case ea4 => k_is)
    (case el4 => k_is)
    (case er4 => first | rfl | decide +kernel)
    (case esa4 => k_is)
    (case eex4 => k_is)
    (case ety4 => k_is)
    (case ekp4 => k_is)
    (case ega4 => k_is)
    (case egg4 => k_is)
    (case ehd4 => k_is)
    (case eca4 => k_is)
    (case emr4 => k_is)
    (case iI4 => k_is)
    (case tI4 => k_is)
    (case lI4 => k_is)
    (case cI4 => k_is)
    (case kI4 => k_is)
    (case eno4_place => k_is)
    (case eno4_index => k_is)
    (case ea5 => k_is)
    (case el5 => k_is)
    (case er5 => first | rfl | decide +kernel)
    (case esa5 => k_is)
    (case eex5 => k_is)
    (case ety5 => k_is)
    (case ekp5 => k_is)
    (case ega5 => k_is)
    (case egg5 => k_is)
    (case ehd5 => k_is)
    (case eca5 => k_is)
    (case emr5 => k_is)
    (case exi5 => k_exc)
    (case ea6 => k_is)
    (case el6 => k_is)
    (case er6 => first | rfl | decide +kernel)
    (case esa6 => k_is)
    (case eex6 => k_is)
    (case ety6 => k_is)
    (case ekp6 => k_is)
    (case ega6 => k_is)
    (case egg6 => k_is)
    (case ehd6 => k_is)
    (case eca6 => k_is)
    (case emr6 => k_is)
    (case iI6 => k_is)
    (case tI6 => k_is)
    (case lI6 => k_is)
    (case cI6 => k_is)
    (case kI6 => k_is)
    (case eno6_what => k_is)
    (case eno6_limit => k_is)
    (case ea7 => k_is)
    (case el7 => k_is)
    (case er7 => first | rfl | decide +kernel)
    (case esa7 => k_is)
    (case eex7 => k_is)
    (case ety7 => k_is)
    (case ekp7 => k_is)
    (case ega7 => k_is)
    (case egg7 => k_is)
    (case ehd7 => k_is)
    (case eca7 => k_is)
    (case emr7 => k_is)
    (case iI7 => k_is)
    (case tI7 => k_is)
    (case lI7 => k_is)
    (case cI7 => k_is)
    (case kI7 => k_is)
    (case eno7_letter => k_is)
    (case ea8 => k_is)
    (case el8 => k_is)
    (case er8 => first | rfl | decide +kernel)
    (case esa8 => k_is)
    (case eex8 => k_is)
    (case ety8 => k_is)
    (case ekp8 => k_is)
    (case ega8 => k_is)
    (case egg8 => k_is)
    (case ehd8 => k_is)
    (case eca8 => k_is)
    (case emr8 => k_is)
    (case exi8 => k_exc)
    (case ea9 => k_is)
    (case el9 => k_is)
    (case er9 => first | rfl | decide +kernel)
    (case esa9 => k_is)
    (case eex9 => k_is)
    (case ety9 => k_is)
    (case ekp9 => k_is)
    (case ega9 => k_is)
    (case egg9 => k_is)
    (case ehd9 => k_is)
    (case eca9 => k_is)
    (case emr9 => k_is)
    (case exi9 => k_exc)
    (case ea10 => k_is)
    (case el10 => k_is)
    (case er10 => first | rfl | decide +kernel)
    (case esa10 => k_is)
    (case eex10 => k_is)
    (case ety10 => k_is)
    (case ekp10 => k_is)
    (case ega10 => k_is)
    (case egg10 => k_is)
    (case ehd10 => k_is)
    (case eca10 => k_is)
    (case emr10 => k_is)
    (case exi10 => k_exc)
    (case cl_BadWord => k_is)
    (case ss_BadWord => k_is)
    (case cl_Closed => k_is)
    (case ss_Closed => k_is)
    (case cl_NoMove => k_is)
    (case ss_NoMove => k_is)
    (case cl_NotFinal => k_is)
    (case ss_NotFinal => k_is)
    (case cl_NothingToUndo => k_is)
    (case ss_NothingToUndo => k_is)
    (case cl_BadLetters => k_is)
    (case ss_BadLetters => k_is)
    (case cl_BadNumber => k_is)
    (case ss_BadNumber => k_is)
    (case cl_Mismatch => k_is)
    (case ss_Mismatch => k_is)
    (case cl_TooLarge => k_is)
    (case ss_TooLarge => k_is)
    (case cl_LagError => k_is)
    (case ss_LagError => k_is)
    (case s_BadLetters_BadWord => k_is)
    (case s_BadLetters_Closed => k_is)
    (case s_BadLetters_NoMove => k_is)
    (case s_BadLetters_NotFinal => k_is)
    (case s_BadLetters_NothingToUndo => k_is)
    (case s_BadLetters_BadNumber => k_is)
    (case s_BadLetters_Mismatch => k_is)
    (case s_BadLetters_TooLarge => k_is)
    (case s_BadLetters_ValueError => k_is)
    (case s_BadLetters_LagError => k_is)
    (case s_BadWord_Closed => k_is)
    (case s_BadWord_NoMove => k_is)
    (case s_BadWord_NotFinal => k_is)
    (case s_BadWord_NothingToUndo => k_is)
    (case s_BadWord_BadLetters => k_is)
    (case s_BadWord_BadNumber => k_is)
    (case s_BadWord_Mismatch => k_is)
    (case s_BadWord_TooLarge => k_is)
    (case s_BadWord_ValueError => k_is)
    (case s_BadWord_LagError => k_is)
    (case s_TooLarge_BadWord => k_is)
    (case s_TooLarge_Closed => k_is)
    (case s_TooLarge_NoMove => k_is)
    (case s_TooLarge_NotFinal => k_is)
    (case s_TooLarge_NothingToUndo => k_is)
    (case s_TooLarge_BadLetters => k_is)
    (case s_TooLarge_BadNumber => k_is)
    (case s_TooLarge_Mismatch => k_is)
    (case s_TooLarge_ValueError => k_is)
    (case s_TooLarge_LagError => k_is)
    (case s_BadEntry_BadWord => k_is)
    (case s_BadEntry_Closed => k_is)
    (case s_BadEntry_NoMove => k_is)
    (case s_BadEntry_NotFinal => k_is)
    (case s_BadEntry_NothingToUndo => k_is)
    (case s_BadEntry_BadLetters => k_is)
    (case s_BadEntry_BadNumber => k_is)
    (case s_BadEntry_Mismatch => k_is)
    (case s_BadEntry_TooLarge => k_is)
    (case s_BadEntry_ValueError => k_is)
    (case s_BadEntry_LagError => k_is)
    (case s_Mismatch_BadWord => k_is)
    (case s_Mismatch_Closed => k_is)
    (case s_Mismatch_NoMove => k_is)
    (case s_Mismatch_NotFinal => k_is)
    (case s_Mismatch_NothingToUndo => k_is)
    (case s_Mismatch_BadLetters => k_is)
    (case s_Mismatch_BadNumber => k_is)
    (case s_Mismatch_TooLarge => k_is)
    (case s_Mismatch_ValueError => k_is)
    (case s_Mismatch_LagError => k_is)
    (case s_Closed_BadWord => k_is)
    (case s_Closed_NoMove => k_is)
    (case s_Closed_NotFinal => k_is)
    (case s_Closed_NothingToUndo => k_is)
    (case s_Closed_BadLetters => k_is)
    (case s_Closed_BadNumber => k_is)
    (case s_Closed_Mismatch => k_is)
    (case s_Closed_TooLarge => k_is)
    (case s_Closed_ValueError => k_is)
    (case s_Closed_LagError => k_is)
    (case s_NoMove_BadWord => k_is)
    (case s_NoMove_Closed => k_is)
    (case s_NoMove_NotFinal => k_is)
    (case s_NoMove_NothingToUndo => k_is)
    (case s_NoMove_BadLetters => k_is)
    (case s_NoMove_BadNumber => k_is)
    (case s_NoMove_Mismatch => k_is)
    (case s_NoMove_TooLarge => k_is)
    (case s_NoMove_ValueError => k_is)
    (case s_NoMove_LagError => k_is)
    (case s_NotFinal_BadWord => k_is)
    (case s_NotFinal_Closed => k_is)
    (case s_NotFinal_NoMove => k_is)
    (case s_NotFinal_NothingToUndo => k_is)
    (case s_NotFinal_BadLetters => k_is)
    (case s_NotFinal_BadNumber => k_is)
    (case s_NotFinal_Mismatch => k_is)
    (case s_NotFinal_TooLarge => k_is)
    (case s_NotFinal_ValueError => k_is)
    (case s_NotFinal_LagError => k_is)
    (case s_NothingToUndo_BadWord => k_is)
    (case s_NothingToUndo_Closed => k_is)
    (case s_NothingToUndo_NoMove => k_is)
    (case s_NothingToUndo_NotFinal => k_is)
    (case s_NothingToUndo_BadLetters => k_is)
    (case s_NothingToUndo_BadNumber => k_is)
    (case s_NothingToUndo_Mismatch => k_is)
    (case s_NothingToUndo_TooLarge => k_is)
    (case s_NothingToUndo_ValueError => k_is)
    (case s_NothingToUndo_LagError => k_is)
    (case oa0 => k_is)
    (case opg0 => k_is)
    (case ohd0 => k_is)
    (case opo0 => k_is)
    (case osa0 => k_is)
    (case omk0 => k_is)
    (case okc0 => k_is)
    (case on0__reader => k_is)
    (case on0__alphabet => k_is)
    (case on0__first => k_is)
    (case on0__lines => k_is)
    (case on0__lasts => k_is)
    (case on0__pushed => k_is)
    (case on0__states => k_is)
    (case on0__closed => k_is)
    (case oa1 => k_is)
    (case opg1 => k_is)
    (case ohd1 => k_is)
    (case opo1 => k_is)
    (case osa1 => k_is)
    (case omk1 => k_is)
    (case okc1 => k_is)
    (case on1__read => k_is)
    (case on1__write => k_is)
    (case on1__first => k_is)
    (case on1__moves => k_is)
    (case on1__finals => k_is)
    (case ma0 => k_is)
    (case mi0 => k_is)
    (case ml0 => k_is)
    (case mc0 => k_is)
    (case mk0 => k_is)
    (case ma1 => k_is)
    (case mgt1 => k_is)
    (case mtk1 => k_is)
    (case mrc1 => k_is)
    (case ml1 => k_is)
    (case mc1 => k_is)
    (case mk1 => k_is)
    (case ma2 => k_is)
    (case mgt2 => k_is)
    (case mtk2 => k_is)
    (case mrc2 => k_is)
    (case ml2 => k_is)
    (case mc2 => k_is)
    (case mk2 => k_is)
    (case ma3 => k_is)
    (case mgt3 => k_is)
    (case mtk3 => k_is)
    (case mrc3 => k_is)
    (case ml3 => k_is)
    (case mc3 => k_is)
    (case mk3 => k_is)
    (case ma4 => k_is)
    (case mgt4 => k_is)
    (case mtk4 => k_is)
    (case mrc4 => k_is)
    (case ml4 => k_is)
    (case mc4 => k_is)
    (case mk4 => k_is)
    (case ma5 => k_is)
    (case mgt5 => k_is)
    (case mtk5 => k_is)
    (case mrc5 => k_is)
    (case ml5 => k_is)
    (case mc5 => k_is)
    (case mk5 => k_is)
    (case ma6 => k_is)
    (case mi6 => k_is)
    (case ml6 => k_is)
    (case mc6 => k_is)
    (case mk6 => k_is)
    (case ma7 => k_is)
    (case mi7 => k_is)
    (case ml7 => k_is)
    (case mc7 => k_is)
    (case mk7 => k_is)
    (case ma8 => k_is)
    (case mi8 => k_is)
    (case ml8 => k_is)
    (case mc8 => k_is)
    (case mk8 => k_is)
    (case ma9 => k_is)
    (case mi9 => k_is)
    (case ml9 => k_is)
    (case mc9 => k_is)
    (case mk9 => k_is)
    (case ma10 => k_is)
    (case mi10 => k_is)
    (case ml10 => k_is)
    (case mc10 => k_is)
    (case mk10 => k_is)
    (case ma11 => k_is)
    (case mi11 => k_is)
    (case ml11 => k_is)
    (case mc11 => k_is)
    (case mk11 => k_is)
    (case ma12 => k_is)
    (case mi12 => k_is)
    (case ml12 => k_is)
    (case mc12 => k_is)
    (case mk12 => k_is)
    (case ma13 => k_is)
    (case mi13 => k_is)
    (case ml13 => k_is)
    (case mc13 => k_is)
    (case mk13 => k_is)
    (case ma14 => k_is)
    (case mgt14 => k_is)
    (case mtk14 => k_is)
    (case mrc14 => k_is)
    (case ml14 => k_is)
    (case mc14 => k_is)
    (case mk14 => k_is)
    (case ma15 => k_is)
    (case mgt15 => k_is)
    (case mtk15 => k_is)
    (case mrc15 => k_is)
    (case ml15 => k_is)
    (case mc15 => k_is)
    (case mk15 => k_is)
    (case ma16 => k_is)
    (case mgt16 => k_is)
    (case mtk16 => k_is)
    (case mrc16 => k_is)
    (case ml16 => k_is)
    (case mc16 => k_is)
    (case mk16 => k_is)
    (case ma17 => k_is)
    (case mgt17 => k_is)
    (case mtk17 => k_is)
    (case mrc17 => k_is)
    (case ml17 => k_is)
    (case mc17 => k_is)
    (case mk17 => k_is)
    (case ma18 => k_is)
    (case mgt18 => k_is)
    (case mtk18 => k_is)
    (case mrc18 => k_is)
    (case ml18 => k_is)
    (case mc18 => k_is)
    (case mk18 => k_is)
    (case ma19 => k_is)
    (case mi19 => k_is)
    (case ml19 => k_is)
    (case mc19 => k_is)
    (case mk19 => k_is)
    (case ma20 => k_is)
    (case mi20 => k_is)
    (case ml20 => k_is)
    (case mc20 => k_is)
    (case mk20 => k_is)
    (case ma21 => k_is)
    (case mi21 => k_is)
    (case ml21 => k_is)
    (case mc21 => k_is)
    (case mk21 => k_is)
    (case ma22 => k_is)
    (case mi22 => k_is)
    (case ml22 => k_is)
    (case mc22 => k_is)
    (case mk22 => k_is)
    (case ma23 => k_is)
    (case mi23 => k_is)
    (case ml23 => k_is)
    (case mc23 => k_is)
    (case mk23 => k_is)
    (case ma24 => k_is)
    (case mi24 => k_is)
    (case ml24 => k_is)
    (case mc24 => k_is)
    (case mk24 => k_is)
    (case z_ValueError => k_is)
    (case z_all => k_is)
    (case z_any => k_is)
    (case z_bool => k_is)
    (case z_enumerate => k_is)
    (case z_int => k_is)
    (case z_isinstance => k_is)
    (case z_iter => k_is)
    (case z_len => k_is)
    (case z_list => k_is)
    (case z_max => k_is)
    (case z_min => k_is)
    (case z_range => k_is)
    (case z_set => k_is)
    (case z_sorted => k_is)
    (case z_str => k_is)
    (case z_tuple => k_is)
    (case c_MAX_LETTERS => k_is)
    (case c_MAX_READ => k_is)
    (case c_MAX_WRITTEN => k_is)
    (case c_MAX_STATES => k_is)
    (case c_SMALL_LETTERS => k_is)
    (case one => decide +kernel)
