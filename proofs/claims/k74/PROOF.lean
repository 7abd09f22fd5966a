import PyProof.Rows.All
import Wide.All
import OpenK.AllK
import Wide.FinOn
import HandS.ForMost
import HandS.Set
import HandS.SetFor
import HandS.TupLe
import HandS.DictComp
import HandS.RevRange
import HandS.Iter
import HandS.Wide
import HandS.WideBits
import HandS.NoneIn
import HandS.IsInst
import HandS.Zip
import HandS.Walk
import HandS.Style
import HandS.CallLocal
import HandS.TupAny
import HandS.TupMul
import KE.GoesEnum
import HandS.Conv
import HandS.Strs
import HandS.Deep
import HandS.Flow
import PyProof.ReprRoads
import PyProof.ReprLen
import PyProof.FitsInt
import KE.DatumOrd
import HandS.SortKw
import PyProof.DictMoreH
import HandS.SetKeys
import PyProof.SumWalk
import PyProof.ListOps
import HandS.DictTup
import HandS.TryOnly
import HandS.Text
import HandS.FStr
import KE.KUnpackStar
import PyProof.ListStr
import HandS.ExcIs
import HandS.ExcInit
import HandS.ExcField
import KE.KExcIs
import HandS.WordsExc
import PyProof.Rows.IntBool
import PyProof.StrLawsRepr
import HandS.SortInts
import HandS.SortRule
import KE.SortData
import KE.SortLaws
import KE.GoesNew
import KE.KDictZip
import HandS.Dict
import PyProof.Rows.SortShellK
import PyProof.Rows.SortStr
import PySem.Challenge.RW_rightage_k74_whole_texts_by_lines
set_option Elab.async false
set_option linter.all false
set_option maxRecDepth 100000
set_option maxHeartbeats 4000000
namespace Rt
open PySem PySem.Spec PyProof.Rows L2

/-! ### a def of the text as its callers see it -/
structure Cl (P : Program) (w : World) (K : PySem.W.Frag) (mg : Str → Option Value) (base : Heap) (k : Nat) (x : Str) (ps : List Str) (sp : Sp) : Prop where
  ex : ∃ (f : Addr) (fd : FuncData), FnOk P w K mg base CX0 k f fd ps sp ∧ mg x = some (.ref f) ∧ PySem.W.keepIn K (.ref f) = true ∧ Binds K fd ps []
section
variable {X : Cx}
theorem pe_cl {k : Nat} {x : Str} {ps : List Str} {sp : Sp} {p pos : Pos} {e : Expr} {es : List Expr} {t : TA} (C : Cl X.prog X.w X.K X.mg X.base k x ps sp) (hr : Room k X.A) (hg : Gl X x) (ha : PA X (e :: es) t)
    (hdb : (x == ("__debug__" : Str)) = false := by decide) (he : starEach (e :: es) X.env = (false, eval e X.env) :: starEach es X.env := by rfl) (hpl : (backTo pos (starEach es X.env)).any (·.1) = false := by rfl) :
    PE X (.Call (.Name x p) (e :: es) [] pos) (tCall sp [] E0 t) := by
  obtain ⟨f, fd, F, hm, hk, hb⟩ := C.ex
  exact pe_call F hr hg hm hk hb .nil pass0 ha hdb he hpl
end


/-! ### rules that hand on letters -/
section
variable {X : Cx}
theorem OpR.weak {f : Value → Value → Sem Value} {r r' : R2} (o : OpR X f r) (m : ∀ x y H Q, r' x y H Q → r x y H Q) : OpR X f r' := fun pn s σ H x y v u Q I a b q => o pn s σ H x y v u Q I a b (m _ _ _ _ q)
def rModL : R2 := fun x y H Q => ∃ i j : Int, x = .int i ∧ y = .int j ∧ 0 < j ∧ ∀ z : Int, z = i % j → 0 ≤ z → z < j → Q (.int z) H
theorem op_modL : OpR X (binaryOp .Mod) rModL := OpR.weak op_mod fun x y H Q h => by
  obtain ⟨i, j, rfl, rfl, hj, q⟩ := h
  exact ⟨i, j, rfl, rfl, hj, q _ rfl (Int.emod_nonneg _ (by omega)) (Int.emod_lt_of_pos _ hj)⟩
def rPowL : R2 := fun x y H Q => ∃ i j : Int, x = .int i ∧ y = .int j ∧ 0 ≤ j ∧ j ≤ 1000000 ∧ i.natAbs < 2 ^ 64 ∧ ∀ z : Int, z = i ^ j.toNat → Q (.int z) H
theorem op_powL : OpR X (binaryOp .Pow) rPowL := OpR.weak op_pow fun x y H Q h => by
  obtain ⟨i, j, rfl, rfl, h0, h1, h2, q⟩ := h
  exact ⟨i, j, rfl, rfl, ⟨h0, h1, h2⟩, q _ rfl⟩
def rMulL : R2 := fun x y H Q => ∃ i j : Int, x = .int i ∧ y = .int j ∧ CMul i j ∧ ∀ z : Int, z = i * j → Q (.int z) H
theorem op_mulL : OpR X (binaryOp .Mult) rMulL := OpR.weak op_mul fun x y H Q h => by
  obtain ⟨i, j, rfl, rfl, h2, q⟩ := h
  exact ⟨i, j, rfl, rfl, h2, q _ rfl⟩
def rAddL : R2 := fun x y H Q => ∃ i j : Int, x = .int i ∧ y = .int j ∧ ∀ z : Int, z = i + j → Q (.int z) H
theorem op_addL : OpR X (binaryOp .Add) rAddL := OpR.weak op_add fun x y H Q h => by
  obtain ⟨i, j, rfl, rfl, q⟩ := h
  exact ⟨i, j, rfl, rfl, q _ rfl⟩
def rSubL : R2 := fun x y H Q => ∃ i j : Int, x = .int i ∧ y = .int j ∧ ∀ z : Int, z = i - j → Q (.int z) H
theorem op_subL : OpR X (binaryOp .Sub) rSubL := OpR.weak op_sub fun x y H Q h => by
  obtain ⟨i, j, rfl, rfl, q⟩ := h
  exact ⟨i, j, rfl, rfl, q _ rfl⟩
def rDivL : R2 := fun x y H Q => ∃ i j : Int, x = .int i ∧ y = .int j ∧ CDivW i j ∧ ∀ z : Int, z = i / j → Q (.int z) H
theorem op_divL : OpR X (binaryOp .FloorDiv) rDivL := OpR.weak op_fdivW fun x y H Q h => by
  obtain ⟨i, j, rfl, rfl, h2, q⟩ := h
  exact ⟨i, j, rfl, rfl, h2, q _ rfl⟩
def rSetLL : V → V → V → Hp → (Hp → Prop) → Prop := fun o i v H Q => ∃ p xs k j, o = .ref p ∧ i = .int k ∧ H p = some (.lst xs) ∧ ixN xs.length k = some j ∧ ∀ H', H' = upd H p (.lst (xs.set j v)) → Q H'
theorem set_listL : PSet X rSetLL := fun pn s σ H o i v ov iv u Q I a b c h => set_list pn s σ H o i v ov iv u Q I a b c (by
  obtain ⟨p, xs, k, j, e1, e2, e3, e4, q⟩ := h
  exact ⟨p, xs, k, j, e1, e2, e3, e4, q _ rfl⟩)
def tTupL (t : TA) : TE := fun σ H Q => t σ H fun xs H1 => xs.length ≤ sizeLine ∧ ∀ p H2, H1 p = none → H2 = upd H1 p (.tup xs) → Q (.ref p) H2
def tLstL (t : TA) : TE := fun σ H Q => t σ H fun xs H1 => xs.length ≤ sizeLine ∧ ∀ p H2, H1 p = none → H2 = upd H1 p (.lst xs) → Q (.ref p) H2
/-- consequence -/
theorem PA.weak {es : List Expr} {t t' : TA} (h : PA X es t) (m : ∀ σ H Q, t' σ H Q → ∃ Q', t σ H Q' ∧ ∀ v H', Q' v H' → Q v H') : PA X es t' := ⟨fun po pn s σ H Q I q => by
  obtain ⟨Q', a, b⟩ := m _ _ _ q
  exact wpAny_mono (h.run po pn s σ H Q' I a) (fun us s1 ⟨vs, H1, I1, r1, q1⟩ => ⟨vs, H1, I1, r1, b _ _ q1⟩) fun _ _ z => z⟩
theorem pe_tupL {es : List Expr} {t : TA} {x1} {pos : Pos} (h : PA X es t) : PE X (.Tuple es x1 pos) (tTupL t) :=
  ⟨fun pn s σ H Q I q => (pe_tup (x1 := x1) (pos := pos) (PA.weak (t' := fun σ H Q => ∃ Q', t σ H Q' ∧ ∀ v H', Q' v H' → Q v H') h fun _ _ _ z => z)).run pn s σ H Q I ⟨_, q, fun xs H1 z => ⟨z.1, fun p hp => z.2 p _ hp rfl⟩⟩⟩
theorem pe_lstL {es : List Expr} {t : TA} {pos : Pos} (h : PA X es t) : PE X (.List es pos) (tLstL t) :=
  ⟨fun pn s σ H Q I q => (pe_lst (pos := pos) (PA.weak (t' := fun σ H Q => ∃ Q', t σ H Q' ∧ ∀ v H', Q' v H' → Q v H') h fun _ _ _ z => z)).run pn s σ H Q I ⟨_, q, fun xs H1 z => ⟨z.1, fun p hp => z.2 p _ hp rfl⟩⟩⟩
end

theorem sz {n : Nat} (h : n ≤ 100000) : n ≤ sizeLine := Nat.le_trans h (by decide)
theorem szl {n : Nat} (h : n < 100000) : n < sizeLine := Nat.lt_of_lt_of_le h (by decide)
theorem atI_in {α : Type} {xs : List α} {i : Int} (h0 : 0 ≤ i) (h : i < xs.length) : ∃ v, atI xs i = some v ∧ v ∈ xs ∧ xs[i.toNat]? = some v := by
  have h2 : i.toNat < xs.length := by omega
  have e : xs[i.toNat]? = some xs[i.toNat] := List.getElem?_eq_getElem h2
  refine ⟨xs[i.toNat], ?_, List.getElem_mem h2, e⟩
  have := atI_nat e
  rwa [Int.toNat_of_nonneg h0] at this
theorem ixN_in {n : Nat} {i : Int} (h0 : 0 ≤ i) (h : i < n) : ixN n i = some i.toNat := by
  unfold ixN
  rw [if_pos h0, if_pos h]

/-! ### rules whose written part is named (for comprehensions) -/
section
variable {X : Cx} {K : PySem.W.Frag}
theorem call_tupK (e : X.K = K := by rfl) : CallR X (.type "tuple") (fun xs H Q => ∃ p ys, xs = [.ref p] ∧ ((SqL K H p ys ∧ ∀ l, H l = none → Q (.ref l) (upd H l (.tup ys))) ∨ (SqT K H p ys ∧ Q (.ref p) H))) := by
  subst e
  exact call_tuple_of
theorem call_lenK (e : X.K = K := by rfl) : CallR X (.builtin "len") (fun xs H Q => ∃ x n, xs = [x] ∧ LenV K x H n ∧ Q (.int n) H) := by
  subst e
  exact call_len
theorem ix_tupK (e : X.K = K := by rfl) : IxR X (rIxT K) := by
  subst e
  exact ix_tup
theorem ix_listK (e : X.K = K := by rfl) : IxR X (rIxL K) := by
  subst e
  exact ix_list
end
end Rt
namespace Rt
open PySem PySem.Spec PyProof.Rows L2
/-! ### the drawn list: cells, the turn, the rests -/
structure Gd where
  d : Addr
  c : Addr
  r : Addr
  n : Nat
  m : Int
structure Dr (g : Gd) (t : Int) (H : Hp) : Prop where
  hd : H g.d = some (.lst [.ref g.c, .int t, .ref g.r, .int g.m])
  hc : ∃ cs : List Int, H g.c = some (.lst (cs.map V.int)) ∧ cs.length = g.n
  hr : ∃ rs : List Int, H g.r = some (.lst (rs.map V.int)) ∧ rs.length = g.n
  dc : g.d ≠ g.c
  dr : g.d ≠ g.r
  cr : g.c ≠ g.r
  n0 : 0 < g.n
  n63 : g.n ≤ 63
  t0 : 0 ≤ t
/-- so many draws may still come -/
def Fu (g : Gd) (B : Nat) (H : Hp) : Prop := ∃ t : Int, Dr g t H ∧ t + B ≤ 1000000
/-- all but the drawn list's own things is as it was -/
def Kp (g : Gd) (H H' : Hp) : Prop := ∀ p o, p ≠ g.d → p ≠ g.r → H p = some o → H' p = some o
/-- tuples are as they were -/
def Tk (H H' : Hp) : Prop := ∀ p xs, H p = some (.tup xs) → H' p = some (.tup xs)
structure Gd.Off (g : Gd) (p : Addr) : Prop where
  d : p ≠ g.d
  c : p ≠ g.c
  r : p ≠ g.r
theorem Kp.refl (g : Gd) (H : Hp) : Kp g H H := fun _ _ _ _ h => h
theorem Kp.trans {g : Gd} {H H1 H2 : Hp} (a : Kp g H H1) (b : Kp g H1 H2) : Kp g H H2 := fun p o h1 h2 h => b p o h1 h2 (a p o h1 h2 h)
theorem Kp.new {g : Gd} {H : Hp} {p : Addr} {o : HO} (h : H p = none) : Kp g H (upd H p o) := fun q u _ _ e => by
  rw [upd_ne (ne_of_none e h)]
  exact e
/-- what H does not know may change -/
theorem Kp.mut {g : Gd} {H H' : Hp} {p : Addr} {o : HO} (e : Kp g H H') (h : H p = none) : Kp g H (upd H' p o) := fun a u h1 h2 ha => by
  rw [upd_ne (ne_of_none ha h)]
  exact e a u h1 h2 ha
theorem Kp.off {g : Gd} {H H' : Hp} {p : Addr} {o : HO} (a : Kp g H H') (f : g.Off p) (h : H p = some o) : H' p = some o := a p o f.d f.r h
theorem Tk.refl (H : Hp) : Tk H H := fun _ _ h => h
theorem Tk.trans {H H1 H2 : Hp} (a : Tk H H1) (b : Tk H1 H2) : Tk H H2 := fun p xs h => b p xs (a p xs h)
theorem Tk.new {H : Hp} {p : Addr} {o : HO} (h : H p = none) : Tk H (upd H p o) := fun q u e => by
  rw [upd_ne (ne_of_none e h)]
  exact e
theorem Tk.lst {H : Hp} {p : Addr} {xs ys : List V} (h : H p = some (.lst xs)) : Tk H (upd H p (.lst ys)) := fun q u e => by
  rw [upd_ne (fun z => by rw [z, h] at e; cases e)]
  exact e
theorem Fu.mono {g : Gd} {B B' : Nat} {H : Hp} (h : Fu g B H) (e : B' ≤ B) : Fu g B' H := by
  obtain ⟨t, a, b⟩ := h
  exact ⟨t, a, by omega⟩
theorem Fu.tk {g : Gd} {B : Nat} {H H' : Hp} (h : Fu g B H) (k : Kp g H H') : Tk H H' := fun p xs e => by
  obtain ⟨t, a, b⟩ := h
  obtain ⟨rs, hr, _⟩ := a.hr
  exact k p _ (fun z => by rw [z, a.hd] at e; cases e) (fun z => by rw [z, hr] at e; cases e) e
theorem Fu.off {g : Gd} {B : Nat} {H : Hp} {p : Addr} (h : Fu g B H) (e : H p = none) : g.Off p := by
  obtain ⟨t, a, b⟩ := h
  obtain ⟨rs, hr, _⟩ := a.hr
  obtain ⟨cs, hc, _⟩ := a.hc
  exact ⟨fun z => (by rw [z, a.hd] at e; cases e), fun z => (by rw [z, hc] at e; cases e), fun z => (by rw [z, hr] at e; cases e)⟩
theorem Fu.upd {g : Gd} {B : Nat} {H : Hp} {p : Addr} {o : HO} (h : Fu g B H) (f : g.Off p) : Fu g B (L2.upd H p o) := by
  obtain ⟨t, a, b⟩ := h
  obtain ⟨cs, hc, ec⟩ := a.hc
  obtain ⟨rs, hr, er⟩ := a.hr
  refine ⟨t, ⟨?_, ⟨cs, ?_, ec⟩, ⟨rs, ?_, er⟩, a.dc, a.dr, a.cr, a.n0, a.n63, a.t0⟩, b⟩
  · rw [upd_ne f.d.symm]; exact a.hd
  · rw [upd_ne f.c.symm]; exact hc
  · rw [upd_ne f.r.symm]; exact hr
theorem Fu.new {g : Gd} {B : Nat} {H : Hp} {p : Addr} {o : HO} (h : Fu g B H) (e : H p = none) : Fu g B (L2.upd H p o) := h.upd (h.off e)
/-! ### comprehensions that draw -/
theorem lcR {g : Gd} {lo : Int} {n : Nat} {gt : TG} {tt : TT} {te : TE} {vs : List Nat} {σ : L2.St} {H1 : Hp} {D : Addr} {Qd : Hp → Prop} {B : Nat} (c : Nat) (Pt : Hp → V → Prop) (Pl : Nat → List V → Prop) (hD : H1 D = none) (hF : Fu g B H1) (hn : n ≤ 1000) (hB : n * c ≤ B)
    (mono : ∀ H H' x, Tk H H' → Pt H x → Pt H' x) (p0 : Pl 0 [])
    (hs : ∀ i H (B' : Nat), i < n → Fu g B' H → c ≤ B' → Kp g H1 H → ∀ (Qk : VK) (Qs : Hp → Prop),
      (∀ y H', Fu g (B' - c) H' → Kp g H H' → Pt H' y → (∀ acc, Pl i acc → Pl (i + 1) (acc ++ [y])) → Qk y H') → (∀ H', Fu g (B' - c) H' → Kp g H H' → (∀ acc, Pl i acc → Pl (i + 1) acc) → Qs H') →
      gt (.int (lo + i)) (wipe σ vs) H fun σ2 H2 => wipe σ2 vs = wipe σ vs ∧ tt σ2 H2 fun b H3 => if b = true then te σ2 H3 Qk else Qs H3)
    (hd : ∀ H acc, Fu g (B - n * c) H → Kp g H1 H → H D = some (.lst acc) → acc.length ≤ n → Pl n acc → (∀ x ∈ acc, Pt H x) → Qd H) :
    ∃ W : Nat → Nat → Hp → Prop, (∃ m, W 0 m (upd H1 D (.lst []))) ∧ ∀ i m H, W i m H →
      ((Itr lo n).stop i H ∧ Qd H) ∨ ((Itr lo n).go i H ∧ ∃ Nx : Hp → Prop, (∀ H', Nx H' → ∃ m', m' < m ∧ W (i + 1) m' H') ∧ ∀ x H', (Itr lo n).yld i H x H' → gt x (wipe σ vs) H' fun σ2 H2 => wipe σ2 vs = wipe σ vs ∧ tt σ2 H2 fun b H3 =>
        if b = true then te σ2 H3 fun y H4 => ∃ acc, H4 D = some (.lst acc) ∧ acc.length < sizeLine ∧ Nx (upd H4 D (.lst (acc ++ [y]))) else Nx H3) := by
  have oD := hF.off hD
  refine lc_range (Pv := fun i H => i ≤ n ∧ ∃ B', B' + i * c = B ∧ Fu g B' H ∧ Kp g H1 H ∧ ∃ acc, H D = some (.lst acc) ∧ acc.length ≤ i ∧ Pl i acc ∧ ∀ x ∈ acc, Pt H x) ⟨Nat.zero_le _, B, by omega, hF.upd oD, Kp.new hD, [], upd_same, Nat.le_refl _, p0, fun x h => nomatch h⟩ (fun i H hi p => ?_) (fun H p => ?_)
  · obtain ⟨_, B', eB, f, k, acc, eD, el, pl, al⟩ := p
    have h1 : (i + 1) * c ≤ n * c := Nat.mul_le_mul_right c hi
    have h2 : (i + 1) * c = i * c + c := Nat.succ_mul i c
    refine hs i H B' hi f (by omega) k _ _ (fun y H' f' k' py ply => ?_) (fun H' f' k' ply => ?_)
    · have eD' := k'.off oD eD
      refine ⟨acc, eD', szl (by omega), hi, B' - c, by omega, f'.upd oD, (k.trans k').mut hD, acc ++ [y], upd_same, by rw [List.length_append]; simp; omega, ply acc pl, fun x hx => ?_⟩
      rcases List.mem_append.mp hx with hx | hx
      · exact mono _ _ _ (Tk.lst eD') (mono _ _ _ (f.tk k') (al x hx))
      · have e : x = y := by simpa using hx
        subst e
        exact mono _ _ _ (Tk.lst eD') py
    · exact ⟨hi, B' - c, by omega, f', k.trans k', acc, k'.off oD eD, by omega, ply acc pl, fun x hx => mono _ _ _ (f.tk k') (al x hx)⟩
  · obtain ⟨_, B', eB, f, k, acc, eD, el, pl, al⟩ := p
    exact hd H acc (f.mono (by omega)) k eD el pl al
theorem lcT {K : PySem.W.Frag} {a : Addr} {xs : List V} {g : Gd} {gt : TG} {tt : TT} {te : TE} {vs : List Nat} {σ : L2.St} {H1 : Hp} {D : Addr} {Qd : Hp → Prop} {B : Nat} (c : Nat) (Pt : Hp → V → Prop) (Pl : Nat → List V → Prop) (hD : H1 D = none) (hF : Fu g B H1) (hn : xs.length ≤ 1000) (hB : xs.length * c ≤ B)
    (hx : H1 a = some (.tup xs)) (mono : ∀ H H' x, Tk H H' → Pt H x → Pt H' x) (p0 : Pl 0 [])
    (hs : ∀ i x H (B' : Nat), xs[i]? = some x → Fu g B' H → c ≤ B' → Kp g H1 H → ∀ (Qk : VK) (Qs : Hp → Prop),
      (∀ y H', Fu g (B' - c) H' → Kp g H H' → Pt H' y → (∀ acc, Pl i acc → Pl (i + 1) (acc ++ [y])) → Qk y H') → (∀ H', Fu g (B' - c) H' → Kp g H H' → (∀ acc, Pl i acc → Pl (i + 1) acc) → Qs H') →
      gt x (wipe σ vs) H fun σ2 H2 => wipe σ2 vs = wipe σ vs ∧ tt σ2 H2 fun b H3 => if b = true then te σ2 H3 Qk else Qs H3)
    (hd : ∀ H acc, Fu g (B - xs.length * c) H → Kp g H1 H → H D = some (.lst acc) → acc.length ≤ xs.length → Pl xs.length acc → (∀ x ∈ acc, Pt H x) → Qd H) :
    ∃ W : Nat → Nat → Hp → Prop, (∃ m, W 0 m (upd H1 D (.lst []))) ∧ ∀ i m H, W i m H →
      ((Itt K a).stop i H ∧ Qd H) ∨ ((Itt K a).go i H ∧ ∃ Nx : Hp → Prop, (∀ H', Nx H' → ∃ m', m' < m ∧ W (i + 1) m' H') ∧ ∀ x H', (Itt K a).yld i H x H' → gt x (wipe σ vs) H' fun σ2 H2 => wipe σ2 vs = wipe σ vs ∧ tt σ2 H2 fun b H3 =>
        if b = true then te σ2 H3 fun y H4 => ∃ acc, H4 D = some (.lst acc) ∧ acc.length < sizeLine ∧ Nx (upd H4 D (.lst (acc ++ [y]))) else Nx H3) := by
  have oD := hF.off hD
  refine lc_tup (xs := xs) (Pv := fun i H => i ≤ xs.length ∧ ∃ B', B' + i * c = B ∧ Fu g B' H ∧ Kp g H1 H ∧ ∃ acc, H D = some (.lst acc) ∧ acc.length ≤ i ∧ Pl i acc ∧ ∀ x ∈ acc, Pt H x) ⟨Nat.zero_le _, B, by omega, hF.upd oD, Kp.new hD, [], upd_same, Nat.le_refl _, p0, fun x h => nomatch h⟩ (fun i H _ p => ?_) (fun i x H hi p => ?_) (fun H p => ?_)
  · obtain ⟨_, B', eB, f, k, acc, eD, el, pl, al⟩ := p
    exact SqT.of (hF.tk k a xs hx)
  · obtain ⟨_, B', eB, f, k, acc, eD, el, pl, al⟩ := p
    have hi' : i < xs.length := (List.getElem?_eq_some_iff.mp hi).1
    have h1 : (i + 1) * c ≤ xs.length * c := Nat.mul_le_mul_right c hi'
    have h2 : (i + 1) * c = i * c + c := Nat.succ_mul i c
    refine hs i x H B' hi f (by omega) k _ _ (fun y H' f' k' py ply => ?_) (fun H' f' k' ply => ?_)
    · have eD' := k'.off oD eD
      refine ⟨acc, eD', szl (by omega), hi', B' - c, by omega, f'.upd oD, (k.trans k').mut hD, acc ++ [y], upd_same, by rw [List.length_append]; simp; omega, ply acc pl, fun x hx => ?_⟩
      rcases List.mem_append.mp hx with hx | hx
      · exact mono _ _ _ (Tk.lst eD') (mono _ _ _ (f.tk k') (al x hx))
      · have e : x = y := by simpa using hx
        subst e
        exact mono _ _ _ (Tk.lst eD') py
    · exact ⟨hi', B' - c, by omega, f', k.trans k', acc, k'.off oD eD, by omega, ply acc pl, fun x hx => mono _ _ _ (f.tk k') (al x hx)⟩
  · obtain ⟨_, B', eB, f, k, acc, eD, el, pl, al⟩ := p
    exact hd H acc (f.mono (by omega)) k eD el pl al
end Rt
namespace Rt
open PySem PySem.Spec PyProof.Rows L2
def topS (i : Nat) : Stmt := PySem.Challenge.pw_rightage_k74_whole_texts_by_lines.main.body.getD i (.Pass ⟨0, 0, 0, 0⟩)
abbrev s_is_number : Stmt := topS 16
theorem sc_is_number : FnScope ["thing"] ["thing"] (defScope s_is_number) := ⟨rfl, rfl, rfl, by decide +kernel, rfl, by decide +kernel, by decide +kernel⟩
abbrev s_is_number_from : Stmt := topS 17
theorem sc_is_number_from : FnScope ["thing", "low", "high"] ["thing", "low", "high"] (defScope s_is_number_from) := ⟨rfl, rfl, rfl, by decide +kernel, rfl, by decide +kernel, by decide +kernel⟩
abbrev s_is_name : Stmt := topS 18
theorem sc_is_name : FnScope ["thing", "sign"] ["thing"] (defScope s_is_name) := ⟨rfl, rfl, rfl, by decide +kernel, rfl, by decide +kernel, by decide +kernel⟩
abbrev s_is_row : Stmt := topS 19
theorem sc_is_row : FnScope ["thing", "fewest", "most"] ["thing", "fewest", "most"] (defScope s_is_row) := ⟨rfl, rfl, rfl, by decide +kernel, rfl, by decide +kernel, by decide +kernel⟩
abbrev s_is_rising : Stmt := topS 20
theorem sc_is_rising : FnScope ["row", "ahead", "behind"] ["row"] (defScope s_is_rising) := ⟨rfl, rfl, rfl, by decide +kernel, rfl, by decide +kernel, by decide +kernel⟩
abbrev s_worldfault : Stmt := topS 22
theorem sc_worldfault : FnScope ["thing", "span", "kinds", "sources", "ways"] ["thing"] (defScope s_worldfault) := ⟨rfl, rfl, rfl, by decide +kernel, rfl, by decide +kernel, by decide +kernel⟩
abbrev s_kinds_fault : Stmt := topS 23
theorem sc_kinds_fault : FnScope ["kinds", "k", "kind"] ["kinds"] (defScope s_kinds_fault) := ⟨rfl, rfl, rfl, by decide +kernel, rfl, by decide +kernel, by decide +kernel⟩
abbrev s_sources_fault : Stmt := topS 24
theorem sc_sources_fault : FnScope ["span", "kinds", "sources", "k", "source", "fault"] ["span", "kinds", "sources"] (defScope s_sources_fault) := ⟨rfl, rfl, rfl, by decide +kernel, rfl, by decide +kernel, by decide +kernel⟩
abbrev s_source_fault : Stmt := topS 25
theorem sc_source_fault : FnScope ["span", "kinds", "source", "kind", "age", "place", "since", "many"] ["span", "kinds", "source"] (defScope s_source_fault) := ⟨rfl, rfl, rfl, by decide +kernel, rfl, by decide +kernel, by decide +kernel⟩
abbrev s_ways_fault : Stmt := topS 26
theorem sc_ways_fault : FnScope ["span", "kinds", "ways", "k", "way", "fault"] ["span", "kinds", "ways"] (defScope s_ways_fault) := ⟨rfl, rfl, rfl, by decide +kernel, rfl, by decide +kernel, by decide +kernel⟩
abbrev s_way_fault : Stmt := topS 27
theorem sc_way_fault : FnScope ["span", "kinds", "way", "kind", "parts", "keeps", "hours", "wait", "fault"] ["span", "kinds", "way"] (defScope s_way_fault) := ⟨rfl, rfl, rfl, by decide +kernel, rfl, by decide +kernel, by decide +kernel⟩
abbrev s_parts_fault : Stmt := topS 28
theorem sc_parts_fault : FnScope ["kinds", "parts", "j", "part", "fault"] ["kinds", "parts"] (defScope s_parts_fault) := ⟨rfl, rfl, rfl, by decide +kernel, rfl, by decide +kernel, by decide +kernel⟩
abbrev s_part_fault : Stmt := topS 29
theorem sc_part_fault : FnScope ["kinds", "part", "kind", "least", "greatest"] ["kinds", "part"] (defScope s_part_fault) := ⟨rfl, rfl, rfl, by decide +kernel, rfl, by decide +kernel, by decide +kernel⟩
abbrev s_is_hours : Stmt := topS 30
theorem sc_is_hours : FnScope ["span", "hours", "hour"] ["span", "hours"] (defScope s_is_hours) := ⟨rfl, rfl, rfl, by decide +kernel, rfl, by decide +kernel, by decide +kernel⟩
abbrev s_fault_below : Stmt := topS 31
theorem sc_fault_below : FnScope ["path", "fault", "inner", "word"] ["path", "fault"] (defScope s_fault_below) := ⟨rfl, rfl, rfl, by decide +kernel, rfl, by decide +kernel, by decide +kernel⟩
abbrev s_world_text : Stmt := topS 37
theorem sc_world_text : FnScope ["world"] ["world"] (defScope s_world_text) := ⟨rfl, rfl, rfl, by decide +kernel, rfl, by decide +kernel, by decide +kernel⟩
abbrev s_world_lines : Stmt := topS 38
theorem sc_world_lines : FnScope ["world", "span", "kinds", "sources", "ways", "lines", "way", "source"] ["world"] (defScope s_world_lines) := ⟨rfl, rfl, rfl, by decide +kernel, rfl, by decide +kernel, by decide +kernel⟩
abbrev s_source_line : Stmt := topS 39
theorem sc_source_line : FnScope ["source", "kind", "age", "place", "since", "many"] ["source"] (defScope s_source_line) := ⟨rfl, rfl, rfl, by decide +kernel, rfl, by decide +kernel, by decide +kernel⟩
abbrev s_way_line : Stmt := topS 40
theorem sc_way_line : FnScope ["way", "kind", "parts", "keeps", "hours", "wait", "word", "words", "hour", "part", "least", "greatest"] ["way"] (defScope s_way_line) := ⟨rfl, rfl, rfl, by decide +kernel, rfl, by decide +kernel, by decide +kernel⟩
abbrev s_read_world : Stmt := topS 41
theorem sc_read_world : FnScope ["text", "lines", "world", "number", "line"] ["text"] (defScope s_read_world) := ⟨rfl, rfl, rfl, by decide +kernel, rfl, by decide +kernel, by decide +kernel⟩
abbrev s_with_line : Stmt := topS 42
theorem sc_with_line : FnScope ["world", "number", "line", "span", "kinds", "sources", "ways", "word", "words"] ["world", "number", "line"] (defScope s_with_line) := ⟨rfl, rfl, rfl, by decide +kernel, rfl, by decide +kernel, by decide +kernel⟩
abbrev s_row_of : Stmt := topS 43
theorem sc_row_of : FnScope ["words", "word"] ["words"] (defScope s_row_of) := ⟨rfl, rfl, rfl, by decide +kernel, rfl, by decide +kernel, by decide +kernel⟩
abbrev s_way_of : Stmt := topS 44
theorem sc_way_of : FnScope ["words", "kind", "keeps", "hours", "wait", "rest", "parts", "at", "part"] ["words"] (defScope s_way_of) := ⟨rfl, rfl, rfl, by decide +kernel, rfl, by decide +kernel, by decide +kernel⟩
abbrev s_hours_of : Stmt := topS 45
theorem sc_hours_of : FnScope ["word", "hours", "hour"] ["word"] (defScope s_hours_of) := ⟨rfl, rfl, rfl, by decide +kernel, rfl, by decide +kernel, by decide +kernel⟩
abbrev s_number_of : Stmt := topS 46
theorem sc_number_of : FnScope ["word", "figures", "number", "sign"] ["word"] (defScope s_number_of) := ⟨rfl, rfl, rfl, by decide +kernel, rfl, by decide +kernel, by decide +kernel⟩
abbrev s_renamed : Stmt := topS 48
theorem sc_renamed : FnScope ["world", "names", "span", "kinds", "sources", "ways", "new", "new_sources", "new_ways", "kind", "name", "source", "way"] ["world", "names"] (defScope s_renamed) := ⟨rfl, rfl, rfl, by decide +kernel, rfl, by decide +kernel, by decide +kernel⟩
abbrev s_are_names : Stmt := topS 49
theorem sc_are_names : FnScope ["thing", "many", "name"] ["thing", "many"] (defScope s_are_names) := ⟨rfl, rfl, rfl, by decide +kernel, rfl, by decide +kernel, by decide +kernel⟩
abbrev s_renamed_way : Stmt := topS 50
theorem sc_renamed_way : FnScope ["way", "new", "kind", "parts", "keeps", "hours", "wait", "new_parts", "part", "least", "greatest"] ["way", "new"] (defScope s_renamed_way) := ⟨rfl, rfl, rfl, by decide +kernel, rfl, by decide +kernel, by decide +kernel⟩
abbrev s_law_draws : Stmt := topS 52
theorem sc_law_draws : FnScope ["_law_script", "_law_may", "_law_cells", "_law_cell"] ["_law_script", "_law_may"] (defScope s_law_draws) := ⟨rfl, rfl, rfl, by decide +kernel, rfl, by decide +kernel, by decide +kernel⟩
abbrev s_law_next : Stmt := topS 53
theorem sc_law_next : FnScope ["_law_drawn", "_law_many", "_law_cells", "_law_turns", "_law_rests", "_law_may", "_law_at", "_law_digit", "_law_mixed", "_law_more"] ["_law_drawn", "_law_many"] (defScope s_law_next) := ⟨rfl, rfl, rfl, by decide +kernel, rfl, by decide +kernel, by decide +kernel⟩
abbrev s_law_alike : Stmt := topS 54
theorem sc_law_alike : FnScope ["_law_one", "_law_other", "_law_k"] ["_law_one", "_law_other"] (defScope s_law_alike) := ⟨rfl, rfl, rfl, by decide +kernel, rfl, by decide +kernel, by decide +kernel⟩
abbrev s_law_names : Stmt := topS 55
theorem sc_law_names : FnScope ["_law_drawn", "_law_many", "_law_left", "_law_stem", "_law_at", "_law_k"] ["_law_drawn", "_law_many"] (defScope s_law_names) := ⟨rfl, rfl, rfl, by decide +kernel, rfl, by decide +kernel, by decide +kernel⟩
abbrev s_law_part : Stmt := topS 56
theorem sc_law_part : FnScope ["_law_drawn", "_law_kinds", "_law_least", "_law_wide"] ["_law_drawn", "_law_kinds"] (defScope s_law_part) := ⟨rfl, rfl, rfl, by decide +kernel, rfl, by decide +kernel, by decide +kernel⟩
abbrev s_law_way : Stmt := topS 57
theorem sc_law_way : FnScope ["_law_drawn", "_law_size", "_law_kinds", "_law_parts", "_law_hours", "_law_keeps", "_law_k", "_law_place"] ["_law_drawn", "_law_size", "_law_kinds"] (defScope s_law_way) := ⟨rfl, rfl, rfl, by decide +kernel, rfl, by decide +kernel, by decide +kernel⟩
abbrev s_law_source : Stmt := topS 58
theorem sc_law_source : FnScope ["_law_drawn", "_law_size", "_law_kinds", "_law_late", "_law_age", "_law_since"] ["_law_drawn", "_law_size", "_law_kinds", "_law_late"] (defScope s_law_source) := ⟨rfl, rfl, rfl, by decide +kernel, rfl, by decide +kernel, by decide +kernel⟩
abbrev s_law_world : Stmt := topS 59
theorem sc_law_world : FnScope ["_law_drawn", "_law_late", "_law_size", "_law_kinds", "_law_many", "_law_sources", "_law_ways", "_law_k"] ["_law_drawn", "_law_late"] (defScope s_law_world) := ⟨rfl, rfl, rfl, by decide +kernel, rfl, by decide +kernel, by decide +kernel⟩
abbrev s_law_exchanged : Stmt := topS 60
theorem sc_law_exchanged : FnScope ["_law_drawn", "_law_some", "_law_one", "_law_other", "_law_found"] ["_law_drawn", "_law_some"] (defScope s_law_exchanged) := ⟨rfl, rfl, rfl, by decide +kernel, rfl, by decide +kernel, by decide +kernel⟩
abbrev s_law_swapped : Stmt := topS 61
theorem sc_law_swapped : FnScope ["_law_drawn", "_law_world_here", "_law_part_here", "_law_rows", "_law_one", "_law_other", "_law_lines", "_law_begin"] ["_law_drawn", "_law_world_here", "_law_part_here"] (defScope s_law_swapped) := ⟨rfl, rfl, rfl, by decide +kernel, rfl, by decide +kernel, by decide +kernel⟩
abbrev s_law_named : Stmt := topS 62
theorem sc_law_named : FnScope ["_law_lines", "_law_names_here", "_law_line", "_law_word"] ["_law_lines", "_law_names_here"] (defScope s_law_named) := ⟨rfl, rfl, rfl, by decide +kernel, rfl, by decide +kernel, by decide +kernel⟩
abbrev s_law : Stmt := topS 63
theorem sc_law : FnScope ["_law_script", "_law_drawn", "_law_world_here", "_law_size", "_law_kinds", "_law_sources", "_law_ways", "_law_lines", "_law_many", "_law_due", "_law_others", "_law_names_here", "_law_spare", "_law_found", "_law_name", "_law_k"] ["_law_script"] (defScope s_law) := ⟨rfl, rfl, rfl, by decide +kernel, rfl, by decide +kernel, by decide +kernel⟩
section
variable {P : Program} {w : World} {K : PySem.W.Frag} {mg : Str → Option Value} {base : Heap}

/-! ### _law_next -/
def spNext : Sp := fun vs H Q _ => ∃ (g : Gd) (B : Nat) (b : Int), vs = [.ref g.d, .int b] ∧ Fu g B H ∧ 1 ≤ B ∧ 0 < b ∧ b < 2 ^ 60 ∧
  ∀ v H', 0 ≤ v → v < b → Fu g (B - 1) H' → Kp g H H' → Q (.int v) H'
theorem ok_next {f : Addr} {fd : FuncData} {k : Nat} (F : Fun K "_law_next" "_law_next" s_law_next f fd) (m_len : mg "len" = none) : FnOk P w K mg base CX0 (k + 1) f fd ["_law_drawn", "_law_many"] spNext := by
  refine F.ok sc_law_next (fun vs H Q E h => ?_) (fun cdv A outer s H vs Q E hr h => ?_)
  · obtain ⟨g, B, b, rfl, _⟩ := h
    rfl
  · obtain ⟨g, B, b, rfl, ⟨t, D, hB⟩, hB1, hb0, hb, q⟩ := h
    obtain ⟨cs, hc, ec⟩ := D.hc
    obtain ⟨rs, hrr, er⟩ := D.hr
    have n0 := D.n0
    have n63 := D.n63
    have t0 := D.t0
    refine ⟨_, (pss_cons (ps_asg (pv 0) (pg_unl rfl (pgs_cons (pg_name (i := 2) sc_law_next.nd rfl (.inl rfl)) (pgs_cons (pg_name (i := 3) sc_law_next.nd rfl (.inl rfl)) (pgs_cons (pg_name (i := 4) sc_law_next.nd rfl (.inl rfl)) (pgs_cons (pg_name (i := 5) sc_law_next.nd rfl (.inl rfl)) pgs_nil))))))
  (pss_cons (ps_set (i := 6) sc_law_next.nd rfl (.inl rfl) (pe_op op_modL (pv 3) (pe_callB call_len (by rfl) m_len (by decide +kernel) (pa_cons (pv 2) pa_nil))))
  (pss_cons (ps_asg (pe_op op_addL (pv 3) pe_int) (pg_sub (pv 0) pe_int set_listL))
  (pss_cons (ps_if (pt_cmpR op_gt (pe_ix ix_list (pv 4) (pv 6) (fun _ _ => rfl)) pe_int (nomark _))
    (pss_cons (ps_set (i := 7) sc_law_next.nd rfl (.inl rfl) (pe_op op_modL (pe_ix ix_list (pv 4) (pv 6) (fun _ _ => rfl)) (pv 1)))
  (pss_cons (ps_asg (pe_op op_divL (pe_ix ix_list (pv 4) (pv 6) (fun _ _ => rfl)) (pv 1)) (pg_sub (pv 4) (pv 6) set_listL))
  (pss_one (ps_ret (pv 7)))))
    pss_nil)
  (pss_cons (ps_set (i := 8) sc_law_next.nd rfl (.inl rfl) (pe_op op_modL (pe_op op_powL (pe_op op_addL (pe_op op_addL (pe_op op_modL (pe_ix ix_list (pv 2) (pv 6) (fun _ _ => rfl)) pe_int) (pe_op op_mulL pe_int (pv 3))) pe_int) pe_int) pe_int))
  (pss_cons (ps_set (i := 9) sc_law_next.nd rfl (.inl rfl) (pe_op op_modL (pe_op op_powL (pe_op op_addL (pe_op op_addL (pv 8) (pe_op op_mulL (pe_op op_mulL pe_int (pv 3)) (pv 3))) pe_int) pe_int) pe_int))
  (pss_one (ps_ret (pe_op op_modL (pe_op op_modL (pe_op op_addL (pe_op op_mulL (pv 9) pe_int) (pv 8)) pe_int) (pv 1)))))))))), ?_⟩
    -- cells, turn, rests = drawn
    refine ⟨.ref g.d, rfl, g.d, _, rfl, SqL.of D.hd, rfl, .ref g.c, _, rfl, .int t, _, rfl, .ref g.r, _, rfl, .int g.m, _, rfl, rfl, ?_⟩
    -- spot = turn % len(cells)
    refine ⟨.int t, rfl, .ref g.c, rfl, .ref g.c, g.n, rfl, .inl ⟨_, SqL.of hc, by rw [List.length_map, ec]⟩, t, (g.n : Int), rfl, rfl, by omega, fun sp esp hs0 hs1 => ?_⟩
    -- drawn[1] = turn + 1
    refine ⟨.int t, rfl, t, 1, rfl, rfl, fun t1 et1 => ⟨.ref g.d, rfl, g.d, _, 1, 1, rfl, rfl, D.hd, rfl, fun H1 eH1 => ?_⟩⟩
    have eH1 : H1 = upd H g.d (.lst [.ref g.c, .int t1, .ref g.r, .int g.m]) := eH1
    have D1 : Dr g t1 H1 := by
      subst eH1
      exact ⟨upd_same, ⟨cs, by rw [upd_ne D.dc.symm]; exact hc, ec⟩, ⟨rs, by rw [upd_ne D.dr.symm]; exact hrr, er⟩, D.dc, D.dr, D.cr, D.n0, D.n63, by omega⟩
    have K1 : Kp g H H1 := fun p o h1 h2 e => by
      subst eH1
      rw [upd_ne h1]
      exact e
    have hc1 : H1 g.c = some (.lst (cs.map V.int)) := by subst eH1; rw [upd_ne D.dc.symm]; exact hc
    have hr1 : H1 g.r = some (.lst (rs.map V.int)) := by subst eH1; rw [upd_ne D.dr.symm]; exact hrr
    -- if rests[spot] > 0
    obtain ⟨rv, hrv, rmem, _⟩ := atI_in (xs := rs.map V.int) (i := sp) hs0 (by rw [List.length_map, er]; exact hs1)
    obtain ⟨x, xm, rfl⟩ := List.mem_map.mp rmem
    obtain ⟨cv, hcv, cmem, _⟩ := atI_in (xs := cs.map V.int) (i := sp) hs0 (by rw [List.length_map, ec]; exact hs1)
    obtain ⟨y, ym, rfl⟩ := List.mem_map.mp cmem
    refine ⟨.ref g.r, rfl, .int sp, rfl, g.r, _, sp, _, rfl, rfl, SqL.of hr1, hrv, x, 0, rfl, rfl, _, rfl, ite2 (fun e => ?_) (fun e => ?_)⟩
    · -- a digit of a great cell
      refine ⟨.ref g.r, rfl, .int sp, rfl, g.r, _, sp, _, rfl, rfl, SqL.of hr1, hrv, .int b, rfl, x, b, rfl, rfl, hb0, fun dg edg hd0 hd1 => ?_⟩
      refine ⟨.ref g.r, rfl, .int sp, rfl, g.r, _, sp, _, rfl, rfl, SqL.of hr1, hrv, .int b, rfl, x, b, rfl, rfl, wide_div (b := 60) hb0 (by omega) (by decide) (by decide), fun z ez => ?_⟩
      refine ⟨.ref g.r, rfl, .int sp, rfl, g.r, _, sp, sp.toNat, rfl, rfl, hr1, ixN_in hs0 (by rw [List.length_map, er]; exact hs1), fun H2 eH2 => ?_⟩
      refine ⟨.int dg, rfl, ?_⟩
      have em : (rs.map V.int).set sp.toNat (.int z) = (rs.set sp.toNat z).map V.int := by rw [List.map_set]
      rw [em] at eH2
      subst eH2
      refine q _ _ hd0 hd1 ⟨t1, ⟨?_, ⟨cs, ?_, ec⟩, ⟨_, upd_same, by rw [List.length_set, er]⟩, D.dc, D.dr, D.cr, D.n0, D.n63, by omega⟩, by omega⟩ (fun p o h1 h2 e => ?_)
      · rw [upd_ne D.dr]; exact D1.hd
      · rw [upd_ne D.cr]; exact hc1
      · rw [upd_ne h2]; exact K1 p o h1 h2 e
    · -- a mixed one
      have ht : t ≤ 1000000 := by omega
      have htt0 : 0 ≤ 6007 * t * t := Int.mul_nonneg (by omega) t0
      have htt1 : 6007 * t * t ≤ 6007 * 1000000 * 1000000 := Int.mul_le_mul (by omega) ht t0 (by decide)
      refine ⟨.ref g.c, rfl, .int sp, rfl, g.c, _, sp, _, rfl, rfl, SqL.of hc1, hcv, y, 2147483647, rfl, rfl, by decide, fun y1 ey1 hy0 hy1 => ?_⟩
      refine ⟨.int t, rfl, 69621, t, rfl, rfl, .inl ⟨by decide, by decide⟩, fun y2 ey2 => ⟨y1, y2, rfl, rfl, fun y3 ey3 => ⟨y3, 30269, rfl, rfl, fun y4 ey4 => ⟨y4, 3, rfl, rfl, by decide, by decide, by omega, fun y5 ey5 => ⟨y5, 2147483629, rfl, rfl, by decide, fun m em hm0 hm1 => ?_⟩⟩⟩⟩⟩
      refine ⟨.int m, rfl, .int t, rfl, 6007, t, rfl, rfl, .inl ⟨by decide, by decide⟩, fun u1 eu1 => ⟨.int t, rfl, u1, t, rfl, rfl, .inl ⟨by omega, by omega⟩, fun u2 eu2 => ⟨m, u2, rfl, rfl, fun u3 eu3 => ⟨u3, 17, rfl, rfl, fun u4 eu4 => ⟨u4, 3, rfl, rfl, by decide, by decide, ?_, fun u5 eu5 => ⟨u5, 2147483587, rfl, rfl, by decide, fun a ea ha0 ha1 => ?_⟩⟩⟩⟩⟩⟩
      · subst eu1
        omega
      · refine ⟨.int a, rfl, a, 2147483423, rfl, rfl, .inl ⟨by omega, by omega⟩, fun v1 ev1 => ⟨.int m, rfl, v1, m, rfl, rfl, fun v2 ev2 => ⟨v2, 4611686018427387847, rfl, rfl, by decide, fun v3 ev3 hv0 hv1 => ⟨.int b, rfl, v3, b, rfl, rfl, hb0, fun v4 ev4 hv2 hv3 => ?_⟩⟩⟩⟩
        exact q _ _ hv2 hv3 ⟨t1, D1, by omega⟩ K1
end
end Rt
namespace Rt
open PySem PySem.Spec PyProof.Rows L2
theorem sm_new {H : Hp} {p : Addr} {o : HO} (h : H p = none) : Same H (upd H p o) := fun b x e => by
  rw [upd_ne (ne_of_none e h)]
  exact e
theorem sm_mut {H H' : Hp} {p : Addr} {o : HO} (e : Same H H') (h : H p = none) : Same H (upd H' p o) := fun b x z => by
  rw [upd_ne (ne_of_none z h)]
  exact e b x z
theorem cut63 (ns : List Int) : cutV (ns.map V.int) none (some 63) = (ns.take 63).map V.int := by
  unfold cutV
  rw [show HT.sIx (ns.map V.int).length (ns.map V.int).length (some 63) = min 63 (ns.map V.int).length from HT.sIx_nat _ _ 63, HT.sIx_none, List.drop_zero, List.map_take, Nat.sub_zero]
  rw [← List.take_take]
  rw [List.take_length]
theorem ne_of_some {H : Hp} {p q : Addr} {o : HO} (h : H p = some o) (n : H q = none) : q ≠ p := fun e => by
  rw [e, h] at n
  cases n
section
variable {P : Program} {w : World} {K : PySem.W.Frag} {mg : Str → Option Value} {base : Heap}

def spDraws (K : PySem.W.Frag) : Sp := fun vs H Q _ => ∃ (a : Addr) (ns : List Int) (m : Int), vs = [.ref a, .int m] ∧ SqL K H a (ns.map V.int) ∧ ns.length ≤ 63 ∧
  ∀ g H', Same H H' → Fu g 1000000 H' → Q (.ref g.d) H'
theorem ok_draws {f : Addr} {fd : FuncData} {k : Nat} (F : Fun K "_law_draws" "_law_draws" s_law_draws f fd) (m_len : mg "len" = none) (m_list : mg "list" = none) (m_int : mg "int" = none) : FnOk P w K mg base CX0 (k + 1) f fd ["_law_script", "_law_may"] (spDraws K) := by
  refine F.ok sc_law_draws (fun vs H Q E h => ?_) (fun cdv A outer s H vs Q E hr h => ?_)
  · obtain ⟨a, ns, m, rfl, _⟩ := h
    rfl
  · obtain ⟨a, ns, m, rfl, hS, hn, q⟩ := h
    refine ⟨_, (pss_cons (ps_set (i := 2) sc_law_draws.nd rfl (.inl rfl) (pe_op op_cat (pe_callTy call_list_of (by rfl) m_list (by decide +kernel) (pa_cons (pe_slice sl_list (pv 0) po_none (po_some pe_int)) pa_nil)) (pe_op op_rep (pe_lstL (pa_cons pe_int pa_nil)) (pe_callTy call_int1 (by rfl) m_int (by decide +kernel) (pa_cons (pe_cmpR op_eq (pe_callB call_len (by rfl) m_len (by decide +kernel) (pa_cons (pv 0) pa_nil)) pe_int (nomark _)) pa_nil)))))
  (pss_one (ps_ret (pe_lstL (pa_cons (pv 2) (pa_cons pe_int (pa_cons (pe_lc (own := [("_law_cell", 3)]) (g := (gName 3)) (tt := tYes) rfl sc_law_draws.nd (pi_list (pv 2)) (blkOk_by (own := [("_law_cell", 3)]) (N := ["_law_script", "_law_may", "_law_cells", "_law_cell"]) (sc := defScope s_law_draws) (by decide +kernel)) (fun _ _ _ _ _ => (pg_name (i := 3) sc_law_draws.nd rfl (.inl rfl))) (fun _ _ _ _ _ => pts_nil) (fun _ _ _ _ _ => (pe_op op_mulL (pv 3) (pe_callTy call_int1 (by rfl) m_int (by decide +kernel) (pa_cons (pe_cmpR op_ge (pv 3) (pe_op op_powL pe_int pe_int) (nomark _)) pa_nil))))) (pa_cons (pv 1) pa_nil)))))))), ?_⟩
    -- list(script[:63])
    refine ⟨.ref a, rfl, 63, rfl, a, ns.map V.int, rfl, hS, fun c0 n0 => ⟨c0, _, rfl, .inl (SqL.of upd_same), fun l nl => ?_⟩⟩
    rw [cut63]
    have s1 : Same H (upd (upd H c0 (.lst ((ns.take 63).map V.int))) l (.lst ((ns.take 63).map V.int))) := sm_mut (sm_new n0) (by
      cases e : H l with
      | none => rfl
      | some o => rw [sm_new n0 _ _ e] at nl; cases nl)
    generalize eH1 : upd (upd H c0 (.lst ((ns.take 63).map V.int))) l (.lst ((ns.take 63).map V.int)) = H1 at s1 ⊢
    have hl1 : H1 l = some (.lst ((ns.take 63).map V.int)) := by rw [← eH1]; exact upd_same
    -- [0] * int(len(script) == 0)
    refine ⟨by decide, fun p2 H2 np2 eH2 => ⟨.ref a, rfl, .ref a, ns.length, rfl, .inl ⟨_, (s1.trans (by rw [eH2]; exact sm_new np2)).seq hS, by rw [List.length_map]⟩, rfl, .inr ⟨_, rfl, ?_⟩⟩⟩
    have s2 : Same H1 H2 := by rw [eH2]; exact sm_new np2
    have hp2 : H2 p2 = some (.lst [.int 0]) := by rw [eH2]; exact upd_same
    have hl2 := s2 _ _ hl1
    obtain ⟨j, ej, hj⟩ : ∃ j : Nat, (if decide (V.int (ns.length : Int) = V.int 0) = true then (1 : Int) else 0) = (j : Int) ∧ (j = 1 ∧ ns.length = 0 ∨ j = 0 ∧ 0 < ns.length) := by
      by_cases e0 : ns.length = 0
      · exact ⟨1, by rw [e0]; rfl, .inl ⟨rfl, e0⟩⟩
      · refine ⟨0, ?_, .inr ⟨rfl, by omega⟩⟩
        rw [if_neg]
        · rfl
        · intro z
          have z2 := V.int.inj (of_decide_eq_true z)
          omega
    refine ⟨p2, (j : Int), [.int 0], rfl, by rw [← ej], hp2, by omega, by omega, by show 1 * (j : Int).toNat ≤ _; exact sz (by omega), fun p3 np3 => ?_⟩
    have el : (List.replicate ((j : Int).toNat) [V.int 0]).flatten = (List.replicate j (0 : Int)).map V.int := by
      rw [Int.toNat_natCast]
      rcases hj with ⟨rfl, _⟩ | ⟨rfl, _⟩ <;> rfl
    rw [el]
    have hl3 : upd H2 p3 (.lst ((List.replicate j (0 : Int)).map V.int)) l = some (.lst ((ns.take 63).map V.int)) := sm_new np3 _ _ hl2
    refine ⟨l, p3, _, _, rfl, rfl, hl3, upd_same, ?_, fun c nc => ?_⟩
    · rw [List.length_map, List.length_map, List.length_take, List.length_replicate]
      exact sz (by omega)
    rw [← List.map_append]
    generalize ecs : ns.take 63 ++ List.replicate j (0 : Int) = cs
    have lcs : 0 < cs.length ∧ cs.length ≤ 63 := by
      rw [← ecs, List.length_append, List.length_take, List.length_replicate]
      omega
    have s3 : Same H2 (upd (upd H2 p3 (.lst ((List.replicate j (0 : Int)).map V.int))) c (.lst (cs.map V.int))) := (sm_new np3).trans (sm_new nc)
    generalize eH3 : upd (upd H2 p3 (.lst ((List.replicate j (0 : Int)).map V.int))) c (.lst (cs.map V.int)) = H3 at s3 ⊢
    have hc3 : H3 c = some (.lst (cs.map V.int)) := by rw [← eH3]; exact upd_same
    have sH3 : Same H H3 := (s1.trans s2).trans s3
    -- the rests
    refine ⟨.ref c, rfl, .ref c, rfl, c, rfl, ⟨_, SqL.of hc3⟩, fun D nD => ?_⟩
    have oc : D ≠ c := ne_of_some hc3 nD
    refine lc_list (K := K) (a := c) (xs := cs.map V.int) (fun i H' => Same H3 H' ∧ ∃ rs : List Int, H' D = some (.lst (rs.map V.int)) ∧ rs.length = i) ⟨sm_new nD, [], upd_same, rfl⟩ (fun i H' _ h => SqL.of (h.1 _ _ hc3)) (fun i x H' hx h => ?_) (fun H4 h => ?_)
    · obtain ⟨sm, rs, eD, er⟩ := h
      have hi : i < (cs.map V.int).length := (List.getElem?_eq_some_iff.mp hx).1
      rw [List.length_map] at hi
      obtain ⟨z, rfl⟩ : ∃ z, x = V.int z := by
        rw [List.getElem?_map, List.getElem?_eq_getElem hi] at hx
        exact ⟨_, (Option.some.inj hx).symm⟩
      refine ⟨rfl, .int z, rfl, .int z, rfl, 10, 18, rfl, rfl, by decide, by decide, by decide, fun y ey => ⟨z, y, rfl, rfl, .inr ⟨_, rfl, ?_⟩⟩⟩
      refine ⟨z, _, rfl, rfl, .inr ?_, fun v ev => ⟨_, eD, ?_, sm_mut sm nD, rs ++ [v], ?_, ?_⟩⟩
      · split <;> decide
      · rw [List.length_map, er]
        exact szl (by omega)
      · rw [upd_same, List.map_append]
        rfl
      · rw [List.length_append, er]
        rfl
    · obtain ⟨sm, rs, eD, er⟩ := h
      rw [List.length_map] at er
      refine ⟨.int m, rfl, sz (n := 4) (by decide), fun d H5 nd eH5 => ?_⟩
      have hc4 := sm _ _ hc3
      subst eH5
      refine q ⟨d, c, D, cs.length, m⟩ _ (sH3.trans (sm.trans (sm_new nd))) ⟨0, ⟨upd_same, ⟨cs, sm_new nd _ _ hc4, rfl⟩, ⟨rs, sm_new nd _ _ eD, er⟩, ne_of_some hc4 nd, ne_of_some eD nd, oc.symm, lcs.1, lcs.2, by decide⟩, by decide⟩
end
end Rt
namespace Rt
open PySem PySem.Spec PyProof.Rows L2
/-! ### defs that are called where nothing is being shown (no guard stands around) -/
structure FnG (P : Program) (w : World) (K : PySem.W.Frag) (mg : Str → Option Value) (base : Heap) (k : Nat) (f : Addr) (fd : FuncData) (ps : List Str) (sp : Sp) : Prop where
  many : ∀ vs H Q E, sp vs H Q E → vs.length = ps.length
  goes : ∀ (A : Around) (outer : List Env) (s : Shared) (H : Hp) (args : Args) (us : List Value) (vs : List V) (Q : VK) (E : XK), Room k A → A.guards = some [] → Env0 P w K mg base A outer s H → BindsTo s fd args (ps.zip us) → Vals vs us → sp vs H Q E →
    codeAny (model P w) A (.call (.ref f) args) (CR CX0 outer P w H s Q E) s
section
variable {P : Program} {w : World} {K : PySem.W.Frag} {mg : Str → Option Value} {base : Heap}
theorem okG {x qual : Str} {st : Stmt} {f : Addr} {fd : FuncData} {N ps : List Str} {k : Nat} {sp : Sp} (F : Fun K x qual st f fd) (S : FnScope N ps (defScope st)) (many : ∀ vs H Q E, sp vs H Q E → vs.length = ps.length)
    (walk : ∀ (cdv : Value) (A : Around) (outer : List Env) (s : Shared) (H : Hp) (vs : List V) (Q : VK) (E : XK), Room k (A.deeper (envOfC qual (defScope st) s.heap.objs.size f cdv)) → (A.deeper (envOfC qual (defScope st) s.heap.objs.size f cdv)).guards = some [] → sp vs H Q E →
      ∃ t, PSs (cxOf CX0 P w K mg base N qual (defScope st) f cdv A outer s H E).nox (defBody st) t ∧ t { nx := fun _ H' => Q .non H', rt := Q } (start N vs) H) : FnG P w K mg base (k + 1) f fd ps sp := by
  obtain ⟨oc, od, kV, doc, pm, an, cdv, ct, osl, rfl, lk, hcd⟩ := F.ex
  refine ⟨many, fun A outer s H args us vs Q E room free e0 binds vals hsp => ?_⟩
  have cnt := many vs H Q E hsp
  have stands : ∀ b o, base.get? b = some o → s.heap.get? b = some o := fun b o e => (e0.bs b o e).1
  have inK : K.In s.heap := e0.mod.kin.keeps stands
  have kinds : ∀ y ∈ ps.zip us, (defScope st).names.lookup y.1 = some .local ∨ ((defScope st).names.lookup y.1 = some .cell ∧ ((cellsFrom (s.heap.objs.size + 1) (defScope st).names []).lookup y.1).isSome = true) := by
    rintro ⟨nm, vl⟩ hm
    exact (S.par nm (List.of_mem_zip hm).1).imp id fun c => ⟨c, PySem.W.cellsFrom_some _ _ _ (.inl c)⟩
  refine codeAny_call_function room.depth (inK _ _ lk) rfl S.co S.gen rfl (PySem.W.codeRec_of inK hcd) (binds _ _ _ _ (wpAny_newFunctionEnv_cells S.kind kinds fun env he s1 fresh => ?_))
  subst he
  refine ⟨(e0.mod.nolimit.keeps stands).keeps fresh.toInCall.keep, codeAny_func ?_⟩
  obtain ⟨t, ht, hq⟩ := walk cdv A outer s H vs Q E (room.deeper _) free hsp
  have J0 : Inv (cxOf CX0 P w K mg base N qual (defScope st) f cdv A outer s H E) [] (start N vs) H s1 := inv_start S room.hd e0 cnt vals fresh
  refine wpAny_mono (ht.nox.run [] s1 (start N vs) H _ J0 hq) (fun fl s2 done => ?_) fun _ _ z => z
  cases fl with
  | ret u => obtain ⟨v, σ2, H2, J, rv, qv⟩ := done; exact ⟨v, H2, J.os, J.bare, J.base, J.hok, rv, qv⟩
  | next => obtain ⟨σ2, H2, J, qv⟩ := done; exact ⟨V.non, H2, J.os, J.bare, J.base, J.hok, rfl, qv⟩
  | brk => obtain ⟨_, _, _, qv⟩ := done; exact qv.elim
  | cont => obtain ⟨_, _, _, qv⟩ := done; exact qv.elim
theorem FnG.of {k : Nat} {f : Addr} {fd : FuncData} {ps : List Str} {sp : Sp} (F : FnOk P w K mg base CX0 k f fd ps sp) : FnG P w K mg base k f fd ps sp :=
  ⟨F.len, fun A outer s H args us vs Q E room _ => F.run A outer s H args us vs Q E room⟩
end
structure ClG (P : Program) (w : World) (K : PySem.W.Frag) (mg : Str → Option Value) (base : Heap) (k : Nat) (x : Str) (ps : List Str) (sp : Sp) : Prop where
  ex : ∃ (f : Addr) (fd : FuncData), FnG P w K mg base k f fd ps sp ∧ mg x = some (.ref f) ∧ PySem.W.keepIn K (.ref f) = true ∧ Binds K fd ps []
section
variable {X : Cx}
theorem run_G {k : Nat} {f : Addr} {fd : FuncData} {ps : List Str} {sp : Sp} {pn : List (Addr × Obj)} {σ : L2.St} {H : Hp} {s : Shared} {Q : VK} {us : List Value} {vs : List V} (F : FnG X.prog X.w X.K X.mg X.base k f fd ps sp) (room : Room k X.A) (free : X.A.guards = some []) (bd : Binds X.K fd ps [])
    (I : Inv X pn σ H s) (r : Vals vs us) (h : sp (vs ++ []) H Q E0) : wpAny (model X.prog X.w) X.A (call (.ref f) us) (EP X pn σ Q) X.xe s := by
  have r2 : Vals (vs ++ []) (us ++ []) := r.append .nil
  refine wpAny_call (codeAny_mono (F.goes X.A X.stack s H ⟨us, []⟩ (us ++ []) (vs ++ []) Q E0 room free I.env0 (bd s us I.kIn (by rw [← r2.length]; exact F.many _ _ _ _ h)) r2 h) fun res s2 hq => ?_)
  cases res with
  | error e => exact (hq : False).elim
  | ok fl => cases fl with
    | ret u => exact I.after hq
    | next => exact (hq : False).elim
    | brk => exact (hq : False).elim
    | cont => exact (hq : False).elim
theorem pe_clG {k : Nat} {x : Str} {ps : List Str} {sp : Sp} {p pos : Pos} {e : Expr} {es : List Expr} {t : TA} (C : ClG X.prog X.w X.K X.mg X.base k x ps sp) (room : Room k X.A) (free : X.A.guards = some []) (hg : Gl X x) (ha : PA X (e :: es) t)
    (hdb : (x == ("__debug__" : Str)) = false := by decide) (he : starEach (e :: es) X.env = (false, eval e X.env) :: starEach es X.env := by rfl) (hpl : (backTo pos (starEach es X.env)).any (·.1) = false := by rfl) :
    PE X (.Call (.Name x p) (e :: es) [] pos) (tCall sp [] E0 t) := by
  obtain ⟨f, fd, F, hm, hk, hb⟩ := C.ex
  refine ⟨fun pn s σ H Q I h => wpAny_Call_Name_kw (ld_glob I hg hm ?_ hdb)⟩
  exact PySem.W.callWith_K (h₀ := X.base) I.ok.mod.kin hk (thn (ha.run pos pn s σ H _ I h) fun us s1 ⟨vs, H1, I1, r, q⟩ => ⟨I1.kIn, run_G F room free hb I1 r q⟩) he hpl
/-! ### repr of data -/
def rRepr (K : PySem.W.Frag) : List V → Hp → VK → Prop := fun xs H Q => ∃ (a : Addr) (d : PyData), xs = [.ref a] ∧ Dp K H (.ref a) d ∧ d.showable = true ∧ d.hasDict = false ∧ d.depth ≤ 60 ∧ d.shown.length ≤ sizeLine ∧ ∀ z : Str, z = d.shown → Q (.str z) H
theorem call_repr (free : X.A.guards = some []) (hu : X.A.units + 64 < cLine) : CallR X (.builtin "repr") (rRepr X.K) := by
  intro pn s σ H xs us Q I r h
  obtain ⟨a, d, rfl, hd, h1, h2, h3, h4, q⟩ := h
  obtain ⟨u, rfl, r1⟩ := vals1 r
  obtain ⟨as, rd⟩ := Dp.reads I d _ u hd r1
  cases r1
  exact repr_of_reads' rd h1 (fun z => by rw [h2] at z; cases z) free (by omega) (fun _ _ e => e) (fun h' u tk hk => ⟨.str _, H, I.kept hk, ⟨_, rfl⟩, q _ rfl⟩) h4
def rReprB : List V → Hp → VK → Prop := fun xs H Q => ∃ b : Bool, xs = [.bl b] ∧ ∀ z : Str, z = (if b then Str.ofString "True" else Str.ofString "False") → Q (.str z) H
theorem call_reprB : CallR X (.builtin "repr") rReprB := by
  intro pn s σ H xs us Q I r h
  obtain ⟨b, rfl, q⟩ := h
  obtain ⟨u, rfl, r1⟩ := vals1 r
  cases r1
  exact PySem.P.repr_of_bool ⟨.str _, H, I.tok _, ⟨_, rfl⟩, q _ rfl⟩
end
/-! ### the law itself, called where no guard stands -/
theorem lawG {P : Program} {w : World} {K : PySem.W.Frag} {mg mb : Str → Option Value} {k : Nat} {fa a : Addr} {fd : FuncData} {x : Str} {sp : Sp} {s0 : Shared} {us : List Value} {ns : List Int}
    (inK : K.In s0.heap) (gl : s0.heap.Ns mainGlobals mg) (bl : s0.heap.Ns builtinsNs mb) (bb : ∀ x : Str, x ≠ "__name__" → mb x = bootBuiltins x) (nl : s0.heap.NoLimit) (ng : s0.gens = #[])
    (sc : s0.heap.get? a = some { cls := .type "list", data := .seq us.toArray }) (hin : IntsAre us ns) (short : ns.length ≤ sizeLine) (room : Room k callerA)
    (F : ∀ base : Heap, K.In base → base.Ns mainGlobals mg → FnG P w K mg base k fa fd [x] sp) (bd : ∀ (s : Shared) (u : Value), BindsTo s fd ⟨[u], []⟩ [(x, u)])
    (hsp : ∀ H : Hp, Only H → SqL K H a (ns.map V.int) → sp [.ref a] H (fun v _ => v = .bl true) E0) :
    codeAny (model P w) callerA (.call (.ref fa) ⟨[.ref a], []⟩) (fun r s2 => r = .ok (.ret (.bool true)) ∧ OldK s0.heap s2.heap ∧ s2.os = s0.os ∧ AllBare s2.gens) s0 := by
  have rel := vals_ints hin
  have main : ∀ H : Hp, Only H → SqL K H a (ns.map V.int) → HOk P w H s0.heap → (∀ b u, H b = some u → b = a ∧ K.lookup a = none) →
      codeAny (model P w) callerA (.call (.ref fa) ⟨[.ref a], []⟩) (fun r s2 => r = .ok (.ret (.bool true)) ∧ OldK s0.heap s2.heap ∧ s2.os = s0.os ∧ AllBare s2.gens) s0 := by
    intro H only seq hok just
    have free : ∀ {b : Addr}, (b = a → K.lookup a = none → False) → H b = none := fun {b} no => by
      cases z : H b with
      | none => rfl
      | some u => exact (no (just b u z).1 (just b u z).2).elim
    have spaces : ∀ {b : Addr} {m : Str → Option Value}, s0.heap.Ns b m → (hidT s0.heap H).Ns b m := fun {b m} h => by
      obtain ⟨o, es, ep, e, d, r⟩ := h
      refine ⟨o, es, ep, hidT_get e (free fun z _ => ?_), d, r⟩
      subst z
      rw [sc] at e
      cases e
      cases d
    have inB : K.In (hidT s0.heap H) := fun b o e => hidT_get (inK b o e) (free fun z n => by
      subst z
      rw [n] at e
      cases e)
    have md : Mod K mg (hidT s0.heap H) := by
      obtain ⟨mc, n1, n2⟩ := nl
      exact ⟨inB, spaces gl, ⟨mb, spaces bl, bb⟩, ⟨mc, spaces n1, n2⟩⟩
    have en : Env0 P w K mg (hidT s0.heap H) callerA [] s0 H := ⟨rfl, md, fun b o e => of_hidT e, Nat.le_of_eq (hidT_size _ _), trivial, (fun b z => nomatch (show b ∈ ([] : List Addr) from z)), hok, .of_eq ng⟩
    refine codeAny_mono ((F _ inB (spaces gl)).goes callerA [] s0 H ⟨[.ref a], []⟩ [.ref a] [.ref a] _ _ room rfl en (bd s0 (.ref a)) (.cons rfl .nil) (hsp H only seq)) fun r s2 h => ?_
    match r, h with
    | .error e, h => exact (h : False).elim
    | .ok .next, h => exact (h : False).elim
    | .ok .brk, h => exact (h : False).elim
    | .ok .cont, h => exact (h : False).elim
    | .ok (.ret u), h =>
      obtain ⟨v, H2, os, bare, un, hok2, rv, rfl⟩ := h
      obtain rfl : u = Value.bool true := rv
      refine ⟨rfl, OldK.of_keep fun b o e => ?_, os, bare⟩
      rcases only b with z | ⟨ob, xs, z⟩
      · exact un.keep b o e z (fun m => nomatch (show b ∈ ([] : List Addr) from m)) (fun m => nomatch m)
      · have e1 := (hok b _ z).1
        have e2 := (hok2 b _ (un.frzs b ob _ z)).1
        rw [e] at e1
        cases e1
        exact e2
  cases own : K.lookup a with
  | some o =>
    have e := inK a o own
    rw [sc] at e
    cases e
    exact main (fun _ => none) (fun _ => .inl rfl) (.inr ⟨_, us.toArray, _, own, rfl, rfl, rfl, by rw [List.size_toArray, hin.length]; exact short, by simpa using rel⟩) (fun b u z => nomatch z) (fun b u z => nomatch z)
  | none =>
    refine main (fun b => if b = a then some (.frz { cls := .type "list", data := .seq us.toArray } (.lst (ns.map V.int))) else none) (fun b => ?_) (.inl (.inr ⟨{ cls := .type "list", data := .seq us.toArray }, if_pos rfl⟩)) (fun b u z => ?_) (fun b u z => ?_)
    · by_cases e : b = a
      · exact .inr ⟨_, _, if_pos e⟩
      · exact .inl (if_neg e)
    · by_cases e : b = a
      · have z2 := (if_pos e).symm.trans z
        cases z2
        subst e
        exact ⟨sc, by rw [List.length_map]; exact short, us, _, rel, sc⟩
      · exact nomatch ((if_neg e).symm.trans z)
    · by_cases e : b = a
      · exact ⟨e, own⟩
      · exact nomatch ((if_neg e).symm.trans z)
theorem walk_G {l : PySem.W.OpenLaw} {n k : Nat} {q : Program} {loose : List Str} {XP : (Str → Option Value) → Heap → Prop} {YP : World → Heap → Prop} {d : DefRec} {K : Params → PySem.W.Frag} {sp : World → Sp} {x : Str}
    (most : l.most = some n) (n2 : n ≤ sizeLine) (nd : d.params.defaults = []) (room : Room k callerA) (hY : ∀ (w : World) (h : Heap), YP w h → (K w.params).In h)
    (F : ∀ (w : World) (mg : Str → Option Value) (fa : Addr) (h : Heap), (K w.params).In h → h.Ns mainGlobals mg → mg d.name = some (.ref fa) →
      ∃ fd : FuncData, (∀ (s : Shared) (u : Value), BindsTo s fd ⟨[u], []⟩ [(x, u)]) ∧ ∀ base : Heap, (K w.params).In base → base.Ns mainGlobals mg → FnG l.prog w (K w.params) mg base k fa fd [x] (sp w))
    (hsp : ∀ (w : World) (H : Hp) (a : Addr) (ns : List Int), ns.length ≤ n → Only H → SqL (K w.params) H a (ns.map V.int) → sp w [.ref a] H (fun v _ => v = .bl true) E0) :
    PySem.W.WalkO q loose XP YP l.row.toRowW d [] (fun f vs => PySem.call f vs) := by
  refine Att.attach_call most nd fun w sA sB mg mb fa o pm cd doc a us ns G Y ho hd hcd hmg hobj hints hlen hg => ?_
  obtain ⟨fd, hb, hF⟩ := F w mg fa _ (hY w _ Y) G.T.g hmg
  exact lawG (hY w _ Y) G.T.g G.T.b G.T.builtins G.T.nolimit hg hobj hints (Nat.le_trans hlen n2) room hF hb fun H only seq => hsp w H a ns hlen only seq
end Rt
namespace Rt
open PySem PySem.Spec PyProof.Rows L2
theorem at_new {H H' : Hp} {p : Addr} {o : HO} (e : H' = upd H p o) : H' p = some o := by
  rw [e]
  exact upd_same
theorem SqT.frz {K : PySem.W.Frag} {H : Hp} {a : Addr} {o : Obj} {xs : List V} (h : H a = some (.frz o (.tup xs))) : SqT K H a xs := .inl (.inr ⟨o, h⟩)
section
variable {X : Cx}
/-- tuple(list), its object known -/
def rTupF (K : PySem.W.Frag) : List V → Hp → VK → Prop := fun xs H Q => ∃ p ys, xs = [.ref p] ∧ SqL K H p ys ∧ ∀ l o H', H l = none → o.dict = none → H' = upd H l (.frz o (.tup ys)) → Q (.ref l) H'
theorem call_tupF : CallR X (.type "tuple") (rTupF X.K) := by
  intro pn s σ H xs us Q I r h
  obtain ⟨p, ys, rfl, hq, q⟩ := h
  obtain ⟨u, rfl, rx⟩ := vals1 r
  cases rx
  obtain ⟨its, r', pl, hz⟩ := I.list hq
  have hln := r'.length
  refine call_tuple_list pl.isList (fun h2 kp => ?_) (by simp only [List.size_toArray] <;> omega)
  have J : Inv X pn σ H { s with heap := h2 } := I.kept (t' := s.toks) kp
  have J2 : Inv X pn σ (upd H h2.objs.size (.frz { cls := .type "tuple", data := .seq its.toArray } (.tup ys))) { s with heap := h2.push { cls := .type "tuple", data := .seq its.toArray } } :=
    J.laid (t' := s.toks) (fun b o e => Heap.get?_push_of_some _ e) (Nat.le_refl _) (show ObjOk X.prog X.w _ _ _ (.frz { cls := .type "tuple", data := .seq its.toArray } (.tup ys)) from ⟨Heap.get?_push_size _ rfl, hz, its, r', IsTup.new _ _⟩)
  exact ⟨.ref h2.objs.size, _, J2, rfl, q _ _ _ (J.hok.fresh (Nat.le_refl _)) rfl rfl⟩
/-- t.index(z) of such a tuple of texts -/
def tIdxF (K : PySem.W.Frag) (to : TE) (t : TA) : TE := fun σ H Q => to σ H fun x H1 => ∃ p o, ∃ ys : List Str, x = .ref p ∧ H1 p = some (.frz o (.tup (ys.map V.str))) ∧ o.dict = none ∧ t σ H1 fun xs H2 => ∃ z j, xs = [.str z] ∧ SqT K H2 p (ys.map V.str) ∧ ys[j]? = some z ∧ (∀ m, m < j → ys[m]? ≠ some z) ∧ Q (.int (j : Nat)) H2
theorem pe_idxF {ob e : Expr} {to : TE} {t : TA} {apos cpos : Pos} (ho : PE X ob to) (ha : PA X [e] t)
    (hbase : attributeBase ob "index" X.env (eval ob X.env) = eval ob X.env := by rfl)
    (hfew : ((backTo cpos (starEach [e] X.env)).all (fun x => !x.1) && (backToKw cpos (keywordEach [] X.env)).all (fun x => x.1.isSome) && decide (([e] : List Expr).length + ([] : List Keyword).length + (if ([] : List Keyword).isEmpty then 0 else 1) < 30)) = true := by rfl)
    (hline : (apos.endLine == cpos.line) = true := by rfl) (hs : starEach [e] X.env = (false, eval e X.env) :: starEach [] X.env := by rfl) (hplain : (backTo cpos (starEach [] X.env)).any (·.1) = false := by rfl) :
    PE X (.Call (.Attribute ob "index" apos) [e] [] cpos) (tIdxF X.K to t) := by
  refine ⟨fun pn s σ H Q I h => wpAny_Call_method_late hbase hfew hline rfl (thn (ho.run pn s σ H _ I h) fun v s1 done => ?_)⟩
  obtain ⟨x, H1, I1, r1, p, o, ys, rfl, hp, hd, q1⟩ := done
  obtain ⟨he, _, its, _, hT⟩ := I1.hok p _ hp
  have ev : v = Value.ref p := by cases r1; rfl
  refine ⟨"tuple", "tuple.index", PySem.F.plainAttrs_tuple, PySem.F.slot_tuple_index, PySem.F.type_tuple_index, by rw [ev]; exact hT.typeIs, fun a z => ?_, ?_⟩
  · rw [ev] at z
    cases z
    exact ⟨o, he, hd⟩
  have hA := ha.run cpos pn s1 σ H1 _ I1 q1
  rw [hs] at hA ⊢
  refine Calls.callWith_builtin (by show (false || (backTo cpos (starEach [] X.env)).any (·.1)) = false; rw [hplain] <;> rfl) (Calls.evalArgs_plain (thn hA fun us s2 more => ?_))
  obtain ⟨vs, H2, I2, r2, z, j, e1, e2, e3, e4, q2⟩ := more
  exact mt_tup_index pn s2 σ H2 (.ref p) vs v us Q I2 r1 r2 ⟨p, ys, z, j, rfl, e1, e2, e3, e4, q2⟩
end
end Rt
namespace Rt
open PySem PySem.Spec PyProof.Rows L2
/-! ### enumerate(tuple) -/
theorem new_enum {v : Value} {o : Obj} {Hq : Heap → Prop} (B : Begins v o Hq) :
    Meets (Builtin.«enumerate.__new__» ⟨[.type "enumerate", v], []⟩) (fun _ R s => Hq s.heap ∧
      R (.ok (.ret (.ref (s.heap.push o).objs.size))) { s with heap := (s.heap.push o).push { cls := .type "enumerate", data := .fields #[.none, .bool false, .ref s.heap.objs.size, rawInt 0, .none, .none] } }) :=
  .of_wp fun prog w A R s h => by
    obtain ⟨hp, gn, dr, tk, os⟩ := s; obtain ⟨hq, h⟩ := h
    have sub := sub_enumerate
    have it : ∀ {A2 : Around} {E : Value → Shared → Prop} {Q : Value → Shared → Prop}, Q (.ref hp.objs.size) ⟨hp.push o, gn, dr, tk, os⟩ → wpAny (model prog w) A2 (pyIter v) Q E ⟨hp, gn, dr, tk, os⟩ :=
      fun q => B.iter prog w _ _ ⟨hp, gn, dr, tk, os⟩ _ hq q
    wp_walk using it
    refine wpAny_stack_any fun st => wpAny_pure ?_
    split
    · rename_i c _ _ _ _ _
      cases (c == Value.type "enumerate")
      all_goals (wp_walk using it; exact ⟨_, rfl, h⟩)
    · wp_walk using it
      exact ⟨_, rfl, h⟩
section
variable {prog : Program} {w : World} {A : Around} {E : Value → Shared → Prop} {s : Shared}
theorem call_enum {v : Value} {o : Obj} {Hq : Heap → Prop} {Q : Value → Shared → Prop} (B : Begins v o Hq) (hq : Hq s.heap)
    (h : ∀ h2, IsEnum h2 (s.heap.objs.size + 1) s.heap.objs.size 0 .none → h2.get? s.heap.objs.size = some o → (∀ b ob, s.heap.get? b = some ob → h2.get? b = some ob) → Q (.ref (s.heap.objs.size + 1)) { s with heap := h2 }) :
    wpAny (model prog w) A (call (.type "enumerate") [v]) Q E s := by
  refine callType_new F.called_enumerate (by decide) (F.typeCall_enumerate_1 _) (F.newCall_enumerate_1 _) (fun obj => F.args_object_init_2 obj _) F.entry_enumerate_new (new_enum B) ⟨hq, ?_⟩
  have sz1 : (s.heap.push o).objs.size = s.heap.objs.size + 1 := Heap.size_push ..
  have en : IsEnum ((s.heap.push o).push { cls := .type "enumerate", data := .fields #[.none, .bool false, .ref s.heap.objs.size, rawInt 0, .none, .none] }) (s.heap.objs.size + 1) s.heap.objs.size 0 .none := by
    have z := Heap.get?_push_size (s.heap.push o) (o := { cls := .type "enumerate", data := .fields #[.none, .bool false, .ref s.heap.objs.size, rawInt 0, .none, .none] }) rfl
    rwa [sz1] at z
  show _ ∧ _
  rw [sz1]
  exact ⟨⟨_, en, rfl⟩, h _ en (Heap.get?_push_of_some _ (Heap.get?_push_size _ B.free)) fun b ob z => Heap.get?_push_of_some _ (Heap.get?_push_of_some _ z)⟩
end
/-- the tuple at a as it stands at each turn, each item in a new pair -/
def IteT (K : PySem.W.Frag) (a : Addr) : It :=
  ⟨fun i H => ∃ (xs : List V) (x : V), SqT K H a xs ∧ xs[i]? = some x, fun i H v H' => ∃ T x, v = .ref T ∧ H T = none ∧ H' = upd H T (.tup [.int (i : Nat), x]) ∧ ∀ xs, SqT K H a xs → xs[i]? = some x, fun i H => ∃ xs : List V, SqT K H a xs ∧ xs.length = i⟩
theorem turn_enumT {P : Program} {w : World} {K : PySem.W.Frag} {elts : List Expr} {kk : Nat} {tpos : Pos} (a e it : Addr) :
    Turn P w K (.Tuple elts kk tpos) (IteT K a) [e, it] e (fun i h => (∃ old, IsEnum h e it ((i : Nat) : Int) old) ∧ h.IsTupleIter it a i ∧ e ≠ it ∧ a ≠ it ∧ a ≠ e) where
  mem := by simp
  obj := by
    rintro i h ⟨⟨old, he⟩, ⟨o, ho, hc, hd⟩, _⟩ b hb
    rcases (by simpa using hb : b = e ∨ b = it) with rfl | rfl
    · exact ⟨_, he, fun v q => nomatch q⟩
    · exact ⟨o, ho, fun v q => by rw [hd] at q; cases q⟩
  keep := by
    rintro i h h2 ⟨⟨old, he⟩, hi, ne⟩ k
    exact ⟨⟨old, k e (by simp) _ he⟩, hi.at fun o q => k it (by simp) o q, ne⟩
  item := by
    intro X hP hw hK hc i pn s σ H E I hf st hg
    subst hP hw hK
    obtain ⟨⟨old, he⟩, hit, ne, nai, nae⟩ := st
    obtain ⟨xs, x, hq, hx⟩ := hg
    obtain ⟨its, rv, tp, hz⟩ := I.tuple hq
    obtain ⟨u, hu, ru⟩ := rv.get hx
    have hel : e < s.heap.objs.size := Heap.lt_size he
    have hil : it < s.heap.objs.size := by obtain ⟨_, q, _⟩ := hit; exact Heap.lt_size q
    have hlt : i < its.toArray.size := by simpa using (List.getElem?_eq_some_iff.mp hu).1
    refine wpAny_pyNext_enum_itemD (Draws.tuple (A := X.A.in1) (I.ok.hd hc) it a nai its.toArray) he ⟨hit, tp⟩ hlt ne (by simp [ne, Ne.symm nae]) fun y h2 tk hy ho hst hT hsz hk => ?_
    have eu : y = u := by
      have : its.toArray[i]? = some u := by simpa using hu
      rw [this] at hy
      exact (Option.some.inj hy).symm
    subst eu
    refine ⟨_, rfl, wpAny_letOwnedTupleGo_enum (s := { s with heap := h2, toks := tk + 1 }) ho fun h3 he3 sb => ?_⟩
    have hT3 : h3.get? s.heap.objs.size = some { cls := .type "tuple", data := .seq #[.int i tk, y] } := (sb.2 _ (Nat.ne_of_gt hel)).trans hT
    have fresh : ObjOk X.prog X.w (upd H s.heap.objs.size (.tup [.int (i : Nat), x])) h3 s.heap.objs.size (.tup [.int (i : Nat), x]) :=
      ⟨sz (n := 2) (by decide), [.int i tk, y], .cons ⟨_, rfl⟩ (.cons ru .nil), ⟨_, hT3, rfl, _, rfl⟩⟩
    have J : Inv X pn σ (upd H s.heap.objs.size (.tup [.int (i : Nat), x])) { s with heap := h3, toks := tk + 1 } :=
      I.turnedNew (ch := [e, it]) (fun b ob hb q => (sb.2 b (fun z => hb (by simp [z]))).trans (hk b ob (fun z => hb (by simp [z])) (fun z => hb (by simp [z])) q)) hf (Nat.le_refl _) fresh
    have ci : ((i + 1 : Nat) : Int) = (i : Int) + 1 := by omega
    refine ⟨.ref s.heap.objs.size, _, J, rfl, ⟨_, x, rfl, I.hok.fresh (Nat.le_refl _), rfl, fun ys hy2 => by rw [I.tuple_inj hy2 hq]; exact hx⟩, ⟨⟨y, by rw [ci]; exact he3⟩, hst.1.at fun o q => (sb.2 it (Ne.symm ne)).trans q, ne, nai, nae⟩, fun b hb => ?_⟩
    have lt : b < s.heap.objs.size := by
      rcases (by simpa using hb : b = e ∨ b = it) with rfl | rfl
      · exact hel
      · exact hil
    rw [upd_ne (Nat.ne_of_lt lt)]
    exact (hf b hb).1
  done := by
    intro X hP hw hK hc i pn s σ H E I hf st hg
    subst hP hw hK
    obtain ⟨⟨old, he⟩, hit, ne, nai, nae⟩ := st
    obtain ⟨xs, hq, hx⟩ := hg
    obtain ⟨its, rv, tp, hz⟩ := I.tuple hq
    obtain ⟨f0, f1, f2, f3, f4, f5⟩ := hf it (by simp)
    have en : i = its.toArray.size := by rw [List.size_toArray, ← rv.length, hx]
    exact wpAny_pyNext_enum_endD (Draws.tuple (A := X.A.in1) (I.ok.hd hc) it a nai its.toArray) he ⟨by rw [← en]; exact hit, tp⟩ fun h2 eb => ⟨rfl, I.turned (t' := s.toks) (fun b o hb q => eb b o hb q) f0 f1 f3 f4 f5⟩
  self := by
    rintro A i s Q E ⟨⟨_, he⟩, _⟩ h
    exact wpAny_pyIter_enum he h
def iEnumT (K : PySem.W.Frag) (ta : TA) : TI := fun σ H R => ta σ H fun vs H1 => ∃ a xs, vs = [.ref a] ∧ SqT K H1 a xs ∧ R (IteT K a) H1
theorem pi_enumT {X : Cx} {e : Expr} {ta : TA} {p pos tpos : Pos} {elts : List Expr} {kk : Nat} (hg : Gl X "enumerate") (hm : X.mg "enumerate" = none) (ha : PA X [e] ta) (hs : starEach [e] X.env = [(false, eval e X.env)] := by rfl) :
    PI X (.Tuple elts kk tpos) (.Call (.Name "enumerate" p) [e] [] pos) (iEnumT X.K ta) := by
  refine ⟨fun pn s σ H R I h => Call_ (ld_blt I hg hm boot_enumerate (PyProof.Rows.callWith_type1 (thn (ha.run pos pn s σ H _ I h) fun us s1 done => ?_) hs rfl))⟩
  obtain ⟨vs, H1, J, r1, a, xs, rfl, hq, q⟩ := done
  obtain ⟨u, rfl, rx⟩ := vals1 r1
  cases rx
  obtain ⟨its, rv, tp, hz⟩ := J.tuple hq
  have hal : a < s1.heap.objs.size := by obtain ⟨_, z, _⟩ := tp; exact Heap.lt_size z
  refine call_enum (begins_tuple a its.toArray) tp fun h2 he hit hk => wpAny_pyIter_enum he ?_
  refine ⟨s1.heap.objs.size + 1, [s1.heap.objs.size + 1, s1.heap.objs.size], _, _, H1, rfl, J.kept (t' := s1.toks) hk, turn_enumT a (s1.heap.objs.size + 1) s1.heap.objs.size, ⟨⟨.none, he⟩, ⟨_, hit, rfl, rfl⟩, Nat.succ_ne_self _, Nat.ne_of_lt hal, Nat.ne_of_lt (Nat.lt_succ_of_lt hal)⟩, fun b hb => ?_, q⟩
  have le : s1.heap.objs.size ≤ b := by
    rcases (by simpa using hb : b = s1.heap.objs.size + 1 ∨ b = s1.heap.objs.size) with rfl | rfl
    · exact Nat.le_succ _
    · exact Nat.le_refl _
  exact J.fpOk le (J.hok.fresh le)
theorem walk_enumT {K : PySem.W.Frag} {a : Addr} {xs : List V} : Walk (IteT K a) xs.length (fun H => SqT K H a xs) (YPair (fun i => some (.int (i : Nat))) (fun i => xs[i]?)) := by
  refine ⟨fun i H hi z => ⟨xs, xs[i], z, by simp [hi]⟩, fun H z => ⟨xs, z, rfl⟩, fun i H v H' hi z y => ?_⟩
  obtain ⟨T, x, h1, h2, h3, h4⟩ := y
  exact ⟨T, .int (i : Nat), x, h1, h2, h3, rfl, h4 xs z⟩
end Rt
namespace Rt
open PySem PySem.Spec PyProof.Rows L2
/-! ### tuple * 1 -/
theorem tuple_mul1 (l : Addr) (items : Array Value) (n : Nat) (dd : Option Addr) (sl : Array (Option Value)) (u : Tok) (c1 : (items.isEmpty || (1 : Int) == 1) = true) :
    Meets (Builtin.«tuple.__mul__» ⟨[.ref l, .int 1 u], []⟩) (fun _ R s => s.heap.get? l = some { cls := .type "tuple", dict := dd, data := .seq items n, slots := sl } ∧
      R (.ok (.ret (Value.ref l))) s) :=
  .of_wp fun prog w A R s h => by
    obtain ⟨hp, g, d, tk, os⟩ := s
    obtain ⟨hl, h⟩ := h
    have f1 := AutoSeq1.idx_int
    have c0 : (decide ((1 : Int) < -(2 ^ 63)) || decide ((1 : Int) ≥ 2 ^ 63)) = false := by decide
    wp_walk using wpAny_loadPart' hl
    repeat (first
      | (refine wpAny_ite_false (decide_eq_false (by rw [c0]; exact Bool.false_ne_true)) ?_; wp_walk using wpAny_loadPart' hl)
      | (refine wpAny_ite_true (decide_eq_true c1) ?_; wp_walk using wpAny_loadPart' hl))
    exact ⟨_, rfl, h⟩
theorem smN {H : Hp} {p : Addr} {o : HO} (h : H p = none) : Same H (upd H p o) := fun b x e => by
  rw [upd_ne (ne_of_none e h)]
  exact e
section
variable {X : Cx}
/-- t * k -/
def rRepS1 : R2 := fun x y H Q => ∃ l k xs, x = .ref l ∧ y = .int k ∧ H l = some (.tup xs) ∧ xs ≠ [] ∧ 1 ≤ k ∧ k ≤ 1000 ∧ xs.length ≤ 1000 ∧ ∀ p H', Same H H' → H' p = some (.tup (List.replicate k.toNat xs).flatten) → Q (.ref p) H'
theorem op_repS1 : OpR X (binaryOp .Mult) rRepS1 := by
  intro pins s σ H x y v u Q I rx ry h
  obtain ⟨l, k, xs, rfl, rfl, hT, hne, h1, h2, hz, q⟩ := h
  by_cases e : k = 1
  · subst e
    cases rx
    obtain ⟨t, rfl⟩ := ry
    obtain ⟨its, r, ⟨⟨cls, dd, data, sl⟩, ho, hc, n, hd⟩, hs⟩ := I.tuple (SqT.of hT)
    simp only at hc hd
    subst hc hd
    refine wpAny_binaryOp_repeat_ref (T := "tuple") (U := "int") (by decide) ⟨_, ho, rfl⟩ (fun s' => typeIs_int s' 1 t) noFill_tuple_mul F.fills_int_mul F.slot_int_rmul repeat_tuple F.slot_int_index.lookup
      (call_meets F.slot_int_rmul (typeIs_int s 1 t) F.entry_int_rmul (F.args_int_rmul_2 _ _) (int_rmul_tuple 1 t l its.toArray n dd sl)
        ⟨ho, rfl, ⟨_, ho, rfl⟩, call_meets F.slot_tuple_mul ⟨_, ho, rfl⟩ F.entry_tuple_mul (F.args_tuple_mul_2 _ _) (tuple_mul1 l its.toArray n dd sl t (by simp)) ⟨ho, ?_⟩⟩)
    refine ⟨.ref l, H, I, rfl, q l H (Same.refl H) ?_⟩
    rw [hT]
    simp
  · exact op_repT pins s σ H _ _ v u Q I rx ry ⟨l, k, xs, rfl, rfl, SqT.of hT, hne, by omega, h2, hz, fun p np => q p _ (smN np) upd_same⟩
/-- t + u -/
def rCatS : R2 := fun x y H Q => ∃ a b xs ys, x = .ref a ∧ y = .ref b ∧ H a = some (.tup xs) ∧ H b = some (.tup ys) ∧ xs.length + ys.length ≤ 1000 ∧ ∀ p H', Same H H' → H' p = some (.tup (xs ++ ys)) → Q (.ref p) H'
theorem op_catS : OpR X (binaryOp .Add) rCatS := by
  intro pins s σ H x y v u Q I rx ry h
  obtain ⟨a, b, xs, ys, rfl, rfl, ha, hb, hz, q⟩ := h
  refine op_catA pins s σ H _ _ v u Q I rx ry ⟨a, b, xs, ys, rfl, rfl, SqT.of ha, SqT.of hb, sz (by omega), fun e => q b H (Same.refl H) ?_, fun _ e => q a H (Same.refl H) ?_, fun _ _ p np => q p _ (smN np) upd_same⟩
  · rw [hb, e]; rfl
  · rw [ha, e, List.append_nil]
/-- t[lo:hi] -/
def rSlS : V → Option Int → Option Int → Hp → VK → Prop := fun x lo hi H Q => ∃ a xs, x = .ref a ∧ H a = some (.tup xs) ∧ ∀ p H', Same H H' → H' p = some (.tup (cutV xs lo hi)) → Q (.ref p) H'
theorem sl_tupS : SlR X rSlS := by
  intro pins s σ H x v vl vu lo hi sl Q I rx hs pl pu h
  obtain ⟨a, xs, rfl, ha, q⟩ := h
  refine sl_tupA pins s σ H _ v vl vu lo hi sl Q I rx hs pl pu ⟨a, xs, rfl, SqT.of ha, fun hw => q a H (Same.refl H) ?_, fun _ p np => q p _ (smN np) upd_same⟩
  rw [ha]
  unfold cutV
  rw [hw.1, hw.2, List.drop_zero, Nat.sub_zero, List.take_length]
end
theorem cut_lo {xs : List V} {m : Nat} (h : m ≤ xs.length) : cutV xs none (some (m : Int)) = xs.take m := by
  unfold cutV
  rw [HT.sIx_none, HT.sIx_nat, List.drop_zero, Nat.sub_zero, Nat.min_eq_left h]
theorem cut_hi {xs : List V} {m : Nat} (h : m ≤ xs.length) : cutV xs (some (m : Int)) none = xs.drop m := by
  unfold cutV
  rw [HT.sIx_none, HT.sIx_nat, Nat.min_eq_left h, List.take_of_length_le (by rw [List.length_drop]; omega)]
theorem set_cut {xs : List V} {m : Nat} {v : V} (h : m < xs.length) : xs.take m ++ [v] ++ xs.drop (m + 1) = xs.set m v := by
  rw [List.set_eq_take_append_cons_drop, if_pos h, List.append_assoc]
  rfl
end Rt
namespace Dl
open PySem PySem.Spec PyProof.Rows L2 Rt
abbrev D := PyData
/-! ### data at values -/
def TupF (H : Hp) (a : Addr) (xs : List V) : Prop := ∃ o : Obj, H a = some (.frz o (.tup xs)) ∧ o.dict = none
/-- a key as data -/
def kD : Key → D
  | .inl i => .int i
  | .inr x => .str x
/-- a dict whose keys are tuples, of numbers -/
def dtV (kvs : List (List Key × Int)) : List (List Key × V) := kvs.map fun z => (z.1, .int z.2)
def dtD (kvs : List (List Key × Int)) : List (D × D) := kvs.map fun z => (.tuple (z.1.map kD), .int z.2)
mutual
inductive Rp (M : Addr → Prop) (H : Hp) : V → D → Prop
  | non : Rp M H .non .none
  | bl (b : Bool) : Rp M H (.bl b) (.bool b)
  | int (i : Int) : Rp M H (.int i) (.int i)
  | str (x : Str) (h : x.length ≤ sizeLine) : Rp M H (.str x) (.str x)
  | tup {a : Addr} {xs : List V} {ds : List D} : TupF H a xs → ¬ M a → xs.length ≤ sizeLine → RpAll M H xs ds → Rp M H (.ref a) (.tuple ds)
  | lst {a : Addr} {xs : List V} {ds : List D} : H a = some (.lst xs) → ¬ M a → xs.length ≤ sizeLine → RpAll M H xs ds → Rp M H (.ref a) (.list ds)
  | dic {a : Addr} {kvs : List (Key × V)} {es : List (D × D)} : H a = some (.dK kvs) → ¬ M a → RpKV M H kvs es → Rp M H (.ref a) (.dict es)
  | dct {a : Addr} {kvs : List (List Key × Int)} {es : List (D × D)} : H a = some (.dT (dtV kvs)) → ¬ M a → es = dtD kvs → Rp M H (.ref a) (.dict es)
inductive RpKV (M : Addr → Prop) (H : Hp) : List (Key × V) → List (D × D) → Prop
  | nil : RpKV M H [] []
  | cons {k : Key} {v : V} {kvs : List (Key × V)} {d : D} {es : List (D × D)} : Rp M H v d → RpKV M H kvs es → RpKV M H ((k, v) :: kvs) ((kD k, d) :: es)
inductive RpAll (M : Addr → Prop) (H : Hp) : List V → List D → Prop
  | nil : RpAll M H [] []
  | cons {v : V} {vs : List V} {d : D} {ds : List D} : Rp M H v d → RpAll M H vs ds → RpAll M H (v :: vs) (d :: ds)
end
def KpM (M : Addr → Prop) (H H' : Hp) : Prop := ∀ p o, ¬ M p → H p = some o → H' p = some o
theorem KpM.of {M : Addr → Prop} {H H' : Hp} (s : Same H H') : KpM M H H' := fun p o _ e => s p o e
theorem KpM.refl {M : Addr → Prop} {H : Hp} : KpM M H H := fun p o _ e => e
def Dom (M : Addr → Prop) (H : Hp) : Prop := ∀ p, M p → H p ≠ none
theorem Dom.mono {M : Addr → Prop} {H H' : Hp} (d : Dom M H) (s : Same H H') : Dom M H' := fun p m e => by
  cases z : H p with
  | none => exact d p m z
  | some o => rw [s p o z] at e; cases e
theorem Dom.not {M : Addr → Prop} {H : Hp} {p : Addr} (d : Dom M H) (e : H p = none) : ¬ M p := fun m => d p m e
mutual
theorem Rp.mono {M : Addr → Prop} {H H' : Hp} (k : KpM M H H') : ∀ {v : V} {d : D}, Rp M H v d → Rp M H' v d
  | _, _, .non => .non
  | _, _, .bl b => .bl b
  | _, _, .int i => .int i
  | _, _, .str x h => .str x h
  | _, _, .tup ⟨o, e, z⟩ n l h => .tup ⟨o, k _ _ n e, z⟩ n l (RpAll.mono k h)
  | _, _, .lst e n l h => .lst (k _ _ n e) n l (RpAll.mono k h)
  | _, _, .dic e n h => .dic (k _ _ n e) n (RpKV.mono k h)
  | _, _, .dct e n z => .dct (k _ _ n e) n z
theorem RpKV.mono {M : Addr → Prop} {H H' : Hp} (k : KpM M H H') : ∀ {vs : List (Key × V)} {ds : List (D × D)}, RpKV M H vs ds → RpKV M H' vs ds
  | _, _, .nil => .nil
  | _, _, .cons h t => .cons (Rp.mono k h) (RpKV.mono k t)
theorem RpAll.mono {M : Addr → Prop} {H H' : Hp} (k : KpM M H H') : ∀ {vs : List V} {ds : List D}, RpAll M H vs ds → RpAll M H' vs ds
  | _, _, .nil => .nil
  | _, _, .cons h t => .cons (Rp.mono k h) (RpAll.mono k t)
end
mutual
theorem Rp.reM {M M' : Addr → Prop} {H : Hp} (k : ∀ a, M' a → M a ∨ H a = none) : ∀ {v : V} {d : D}, Rp M H v d → Rp M' H v d
  | _, _, .non => .non
  | _, _, .bl b => .bl b
  | _, _, .int i => .int i
  | _, _, .str x h => .str x h
  | _, _, .tup ⟨o, e, z⟩ n l h => .tup ⟨o, e, z⟩ (fun m => (k _ m).elim n (fun q => by rw [q] at e; cases e)) l (RpAll.reM k h)
  | _, _, .lst e n l h => .lst e (fun m => (k _ m).elim n (fun q => by rw [q] at e; cases e)) l (RpAll.reM k h)
  | _, _, .dic e n h => .dic e (fun m => (k _ m).elim n (fun q => by rw [q] at e; cases e)) (RpKV.reM k h)
  | _, _, .dct e n z => .dct e (fun m => (k _ m).elim n (fun q => by rw [q] at e; cases e)) z
theorem RpKV.reM {M M' : Addr → Prop} {H : Hp} (k : ∀ a, M' a → M a ∨ H a = none) : ∀ {vs : List (Key × V)} {ds : List (D × D)}, RpKV M H vs ds → RpKV M' H vs ds
  | _, _, .nil => .nil
  | _, _, .cons h t => .cons (Rp.reM k h) (RpKV.reM k t)
theorem RpAll.reM {M M' : Addr → Prop} {H : Hp} (k : ∀ a, M' a → M a ∨ H a = none) : ∀ {vs : List V} {ds : List D}, RpAll M H vs ds → RpAll M' H vs ds
  | _, _, .nil => .nil
  | _, _, .cons h t => .cons (Rp.reM k h) (RpAll.reM k t)
end
theorem TupF.sq {K : PySem.W.Frag} {H : Hp} {a : Addr} {xs : List V} (h : TupF H a xs) : SqT K H a xs := by
  obtain ⟨o, e, _⟩ := h
  exact .inl (.inr ⟨o, e⟩)
mutual
theorem Rp.dp {K : PySem.W.Frag} {M : Addr → Prop} {H : Hp} : ∀ {v : V} {d : D}, Rp M H v d → d.hasDict = false → Dp K H v d
  | _, _, .non, _ => .non
  | _, _, .bl b, _ => .bl b
  | _, _, .int i, _ => .int i
  | _, _, .str x h, _ => .str x
  | _, _, .tup t n l h, e => .tup t.sq (RpAll.dp h e)
  | _, _, .lst t n l h, e => .lst (SqL.of t) (RpAll.dp h e)
  | _, _, .dic t n h, e => nomatch e
  | _, _, .dct t n h, e => nomatch e
theorem RpAll.dp {K : PySem.W.Frag} {M : Addr → Prop} {H : Hp} : ∀ {vs : List V} {ds : List D}, RpAll M H vs ds → PyData.hasDictAll ds = false → DpAll K H vs ds
  | _, _, .nil, _ => .nil
  | _, _, .cons h t, e => by
    have e2 := Bool.or_eq_false_iff.mp e
    exact .cons (Rp.dp h e2.1) (RpAll.dp t e2.2)
end
theorem RpAll.len {M : Addr → Prop} {H : Hp} : ∀ {vs : List V} {ds : List D}, RpAll M H vs ds → vs.length = ds.length
  | _, _, .nil => rfl
  | _, _, .cons _ t => congrArg (· + 1) t.len
theorem RpAll.get {M : Addr → Prop} {H : Hp} : ∀ {vs : List V} {ds : List D} {i : Nat} {d : D}, RpAll M H vs ds → ds[i]? = some d → ∃ v, vs[i]? = some v ∧ Rp M H v d
  | _, _, _, _, .nil, e => nomatch e
  | _, _, 0, _, .cons h t, e => by cases e; exact ⟨_, rfl, h⟩
  | _, _, i + 1, _, .cons h t, e => t.get (i := i) e
theorem RpAll.getV {M : Addr → Prop} {H : Hp} : ∀ {vs : List V} {ds : List D} {i : Nat} {v : V}, RpAll M H vs ds → vs[i]? = some v → ∃ d, ds[i]? = some d ∧ Rp M H v d
  | _, _, _, _, .nil, e => nomatch e
  | _, _, 0, _, .cons h t, e => by cases e; exact ⟨_, rfl, h⟩
  | _, _, i + 1, _, .cons h t, e => t.getV (i := i) e
theorem RpAll.app {M : Addr → Prop} {H : Hp} : ∀ {vs ws : List V} {ds es : List D}, RpAll M H vs ds → RpAll M H ws es → RpAll M H (vs ++ ws) (ds ++ es)
  | _, _, _, _, .nil, b => b
  | _, _, _, _, .cons h t, b => .cons h (t.app b)
theorem RpAll.drop {M : Addr → Prop} {H : Hp} : ∀ {vs : List V} {ds : List D} (n : Nat), RpAll M H vs ds → RpAll M H (vs.drop n) (ds.drop n)
  | _, _, 0, h => h
  | _, _, n + 1, .nil => .nil
  | _, _, n + 1, .cons h t => t.drop n
theorem RpAll.take {M : Addr → Prop} {H : Hp} : ∀ {vs : List V} {ds : List D} (n : Nat), RpAll M H vs ds → RpAll M H (vs.take n) (ds.take n)
  | _, _, 0, h => .nil
  | _, _, n + 1, .nil => .nil
  | _, _, n + 1, .cons h t => .cons h (t.take n)
theorem RpAll.set {M : Addr → Prop} {H : Hp} {v : V} {d : D} (h : Rp M H v d) : ∀ {vs : List V} {ds : List D} (n : Nat), RpAll M H vs ds → RpAll M H (vs.set n v) (ds.set n d)
  | _, _, n, .nil => .nil
  | _, _, 0, .cons _ t => .cons h t
  | _, _, n + 1, .cons g t => .cons g (RpAll.set h n t)
/-! ### the slots -/
inductive LV
  | dat (d : D)
  | own (ds : List D)
  | raw (v : V)
  | pool
abbrev Rho := List (Option LV)
/-- what may not be part of data: the caller's own lists, and the def's -/
def Mu (μ : Bool) (M0 : Addr → Prop) (σ : L2.St) (ρ : Rho) (p : Addr) : Prop := M0 p ∨ (μ = true ∧ ∃ (i : Nat) (ds : List D), ρ[i]? = some (some (.own ds)) ∧ σ[i]? = some (some (.ref p)))
structure Rs (M0 : Addr → Prop) (H0 H : Hp) (σ : L2.St) (ρ : Rho) : Prop where
  sm : Same H0 H
  dom : Dom M0 H0
  len : ρ.length = σ.length
  dat : ∀ (i : Nat) (d : D), ρ[i]? = some (some (.dat d)) → ∃ v, σ[i]? = some (some v) ∧ Rp (Mu true M0 σ ρ) H v d
  own : ∀ (i : Nat) (ds : List D), ρ[i]? = some (some (.own ds)) → ∃ p vs, σ[i]? = some (some (.ref p)) ∧ H p = some (.lst vs) ∧ H0 p = none ∧ vs.length ≤ sizeLine ∧ RpAll (Mu true M0 σ ρ) H vs ds
  raw : ∀ (i : Nat) (v : V), ρ[i]? = some (some (.raw v)) → σ[i]? = some (some v)
  inj : ∀ (i j : Nat) (a b : List D) (p : Addr), ρ[i]? = some (some (.own a)) → ρ[j]? = some (some (.own b)) → σ[i]? = some (some (.ref p)) → σ[j]? = some (some (.ref p)) → i = j
theorem Rs.mono {M0 : Addr → Prop} {H0 H H' : Hp} {σ : L2.St} {ρ : Rho} (R : Rs M0 H0 H σ ρ) (s : Same H H') : Rs M0 H0 H' σ ρ where
  sm := R.sm.trans s
  dom := R.dom
  len := R.len
  dat := fun i d e => by
    obtain ⟨v, a, b⟩ := R.dat i d e
    exact ⟨v, a, b.mono (.of s)⟩
  own := fun i ds e => by
    obtain ⟨p, vs, a, b, c, l, r⟩ := R.own i ds e
    exact ⟨p, vs, a, s _ _ b, c, l, r.mono (.of s)⟩
  raw := R.raw
  inj := R.inj
theorem Rs.domu {M0 : Addr → Prop} {H0 H : Hp} {σ : L2.St} {ρ : Rho} (R : Rs M0 H0 H σ ρ) (μ : Bool) : Dom (Mu μ M0 σ ρ) H := fun p m e => by
  rcases m with m | ⟨_, i, ds, e1, e2⟩
  · exact R.dom.mono R.sm p m e
  · obtain ⟨q, vs, a, b, _⟩ := R.own i ds e1
    rw [e2] at a
    cases a
    rw [b] at e
    cases e
theorem Mu.up {μ : Bool} {M0 : Addr → Prop} {σ : L2.St} {ρ : Rho} {H : Hp} : ∀ a, Mu μ M0 σ ρ a → Mu true M0 σ ρ a ∨ H a = none := fun a m => .inl (by
  rcases m with m | ⟨_, m⟩
  · exact .inl m
  · exact .inr ⟨rfl, m⟩)
theorem Mu.lo {μ : Bool} {M0 : Addr → Prop} {σ : L2.St} {ρ : Rho} {H : Hp} : ∀ a, M0 a → Mu μ M0 σ ρ a ∨ H a = none := fun a m => .inl (.inl m)
theorem Rp.toMu {μ : Bool} {M0 : Addr → Prop} {σ : L2.St} {ρ : Rho} {H : Hp} {v : V} {d : D} (h : Rp (Mu true M0 σ ρ) H v d) : Rp (Mu μ M0 σ ρ) H v d := h.reM Mu.up
theorem RpAll.toMu {μ : Bool} {M0 : Addr → Prop} {σ : L2.St} {ρ : Rho} {H : Hp} {v : List V} {d : List D} (h : RpAll (Mu true M0 σ ρ) H v d) : RpAll (Mu μ M0 σ ρ) H v d := h.reM Mu.up
theorem some_bind {α β : Type} {o : Option α} {f : α → Option β} {b : β} (h : o.bind f = some b) : ∃ a, o = some a ∧ f a = some b := by
  cases o with
  | none => cases h
  | some a => exact ⟨a, rfl, h⟩
mutual
def nl : D → Bool
  | .tuple ds => nlAll ds
  | .list _ => false
  | .dict _ => false
  | _ => true
def nlAll : List D → Bool
  | [] => true
  | d :: ds => nl d && nlAll ds
end
mutual
theorem Rp.nl {M M' : Addr → Prop} {H : Hp} : ∀ {v : V} {d : D}, Rp M H v d → Dl.nl d = true → (∀ a, M' a → M a ∨ ∃ xs, H a = some (.lst xs)) → Rp M' H v d
  | _, _, .non, _, _ => .non
  | _, _, .bl b, _, _ => .bl b
  | _, _, .int i, _, _ => .int i
  | _, _, .str x h, _, _ => .str x h
  | _, _, .tup ⟨o, e, z⟩ n l h, q, k => .tup ⟨o, e, z⟩ (fun m => (k _ m).elim n (fun ⟨xs, y⟩ => by rw [y] at e; cases e)) l (RpAll.nl h q k)
  | _, _, .lst e n l h, q, k => nomatch q
  | _, _, .dic e n h, q, k => nomatch q
  | _, _, .dct e n h, q, k => nomatch q
theorem RpAll.nl {M M' : Addr → Prop} {H : Hp} : ∀ {vs : List V} {ds : List D}, RpAll M H vs ds → nlAll ds = true → (∀ a, M' a → M a ∨ ∃ xs, H a = some (.lst xs)) → RpAll M' H vs ds
  | _, _, .nil, _, _ => .nil
  | _, _, .cons h t, q, k => by
    have q2 := Bool.and_eq_true_iff.mp q
    exact .cons (Rp.nl h q2.1 k) (RpAll.nl t q2.2 k)
end
/-! ### readings by data -/
abbrev EF := Rho → Option D
def tD (μ : Bool) (f : EF) : TE := fun σ H Q => ∃ M0 H0 ρ d, Rs M0 H0 H σ ρ ∧ f ρ = some d ∧ ∀ v H', Same H H' → Rp (Mu μ M0 σ ρ) H' v d → Q v H'
def tA (μ : Bool) (f : Rho → Option (List D)) : TA := fun σ H Q => ∃ M0 H0 ρ ds, Rs M0 H0 H σ ρ ∧ f ρ = some ds ∧ ∀ vs H', Same H H' → RpAll (Mu μ M0 σ ρ) H' vs ds → Q vs H'
def tT (f : Rho → Option Bool) : TT := fun σ H Q => ∃ M0 H0 ρ b, Rs M0 H0 H σ ρ ∧ f ρ = some b ∧ ∀ H', Same H H' → Q b H'
inductive Out
  | nx (ρ : Rho)
  | rt (d : D)
  | bk (ρ : Rho)
  | ct (ρ : Rho)
/-- a step: what is nobody's own stands, own lists are old ones or new -/
structure Stp (M0 : Addr → Prop) (σ : L2.St) (ρ : Rho) (H : Hp) (σ' : L2.St) (ρ' : Rho) (H' : Hp) : Prop where
  kp : KpM (Mu true M0 σ ρ) H H'
  ow : ∀ p, Mu true M0 σ' ρ' p → Mu true M0 σ ρ p ∨ H p = none
theorem Stp.refl {M0 : Addr → Prop} {σ : L2.St} {ρ : Rho} {H : Hp} : Stp M0 σ ρ H σ ρ H := ⟨.refl, fun p m => .inl m⟩
theorem Stp.trans {M0 : Addr → Prop} {σ σ1 σ2 : L2.St} {ρ ρ1 ρ2 : Rho} {H H1 H2 : Hp} (a : Stp M0 σ ρ H σ1 ρ1 H1) (b : Stp M0 σ1 ρ1 H1 σ2 ρ2 H2) : Stp M0 σ ρ H σ2 ρ2 H2 where
  kp := fun p o n e => b.kp p o (fun m => (a.ow p m).elim n (fun z => by rw [z] at e; cases e)) (a.kp p o n e)
  ow := fun p m => by
    rcases b.ow p m with m1 | z
    · exact a.ow p m1
    · by_cases h : Mu true M0 σ ρ p
      · exact .inl h
      · cases e : H p with
        | none => exact .inr rfl
        | some o => rw [a.kp p o h e] at z; cases z
def tS (f : Rho → Option Out) : TS := fun Dn σ H => ∃ M0 H0 ρ o, Rs M0 H0 H σ ρ ∧ f ρ = some o ∧ (match o with
  | .nx ρ' => ∀ σ' H', Rs M0 H0 H' σ' ρ' → Stp M0 σ ρ H σ' ρ' H' → Dn.nx σ' H'
  | .rt d => ∀ v H', Same H0 H' → Rp M0 H' v d → Dn.rt v H'
  | .bk ρ' => ∀ σ' H', Rs M0 H0 H' σ' ρ' → Stp M0 σ ρ H σ' ρ' H' → Dn.bk σ' H'
  | .ct ρ' => ∀ σ' H', Rs M0 H0 H' σ' ρ' → Stp M0 σ ρ H σ' ρ' H' → Dn.ct σ' H')
section
variable {X : Cx}
theorem _root_.L2.PE.wk {e : Expr} {t t' : TE} (h : PE X e t) (m : ∀ σ H Q, t' σ H Q → t σ H Q) : PE X e t' := ⟨fun pn s σ H Q I q => h.run pn s σ H Q I (m _ _ _ q)⟩
theorem _root_.L2.PT.wk {e : Expr} {t t' : TT} (h : PT X e t) (m : ∀ σ H Q, t' σ H Q → t σ H Q) : PT X e t' := ⟨fun pn s σ H Q I q => h.run pn s σ H Q I (m _ _ _ q)⟩
theorem _root_.L2.PW.wk {e : Expr} {t t' : TT} (h : PW X e t) (m : ∀ σ H Q, t' σ H Q → t σ H Q) : PW X e t' := ⟨fun wh pn s σ H Q I q => h.run wh pn s σ H Q I (m _ _ _ q)⟩
theorem _root_.L2.PI.wk {tg e : Expr} {t t' : TI} (h : PI X tg e t) (m : ∀ σ H Q, t' σ H Q → t σ H Q) : PI X tg e t' := ⟨fun pn s σ H Q I q => h.run pn s σ H Q I (m _ _ _ q)⟩
theorem _root_.L2.PS.wk {st : Stmt} {t t' : TS} (h : PS X st t) (m : ∀ D σ H, t' D σ H → t D σ H) : PS X st t' := ⟨fun pn s σ H Q I q => h.run pn s σ H Q I (m _ _ _ q)⟩
theorem _root_.L2.PSs.wk {st : List Stmt} {t t' : TS} (h : PSs X st t) (m : ∀ D σ H, t' D σ H → t D σ H) : PSs X st t' := ⟨fun pn s σ H Q I q => h.run pn s σ H Q I (m _ _ _ q)⟩
/-! names and constants -/
def eVar (i : Nat) : EF := fun ρ => match ρ[i]? with | some (some (.dat d)) => some d | _ => none
def eOwn (i : Nat) : EF := fun ρ => match ρ[i]? with | some (some (.own ds)) => some (.list ds) | _ => none
theorem dE_var {e : Expr} {i : Nat} {μ : Bool} (h : PE X e (tVar i)) : PE X e (tD μ (eVar i)) := h.wk fun σ H Q q => by
  obtain ⟨M0, H0, ρ, d, R, e, q⟩ := q
  unfold eVar at e
  split at e
  · rename_i d' z
    cases e
    obtain ⟨v, a, b⟩ := R.dat i _ z
    exact ⟨v, a, q v H (Same.refl _) b.toMu⟩
  · cases e
theorem dE_own {e : Expr} {i : Nat} (h : PE X e (tVar i)) : PE X e (tD false (eOwn i)) := h.wk fun σ H Q q => by
  obtain ⟨M0, H0, ρ, d, R, e, q⟩ := q
  unfold eOwn at e
  split at e
  · rename_i ds z
    cases e
    obtain ⟨p, vs, a, b, c, l, r⟩ := R.own i _ z
    refine ⟨.ref p, a, q _ H (Same.refl _) (.lst b (fun m => ?_) l r.toMu)⟩
    rcases m with m | ⟨m, _⟩
    · exact R.dom p m c
    · cases m
  · cases e
def eC (d : D) : EF := fun _ => some d
def cD : V → Option D
  | .non => some .none
  | .bl b => some (.bool b)
  | .int i => some (.int i)
  | .str x => if x.length ≤ sizeLine then some (.str x) else none
  | _ => none
theorem cD.rp {M : Addr → Prop} {H : Hp} {v : V} {d : D} (h : cD v = some d) : Rp M H v d := by
  cases v with
  | str x =>
    by_cases e : x.length ≤ sizeLine
    · have h : (if x.length ≤ sizeLine then some (PyData.str x) else none) = some d := h
      rw [if_pos e] at h
      cases h
      exact .str x e
    · have h : (if x.length ≤ sizeLine then some (PyData.str x) else none) = some d := h
      rw [if_neg e] at h
      cases h
  | _ => cases h <;> constructor
theorem dE_c {e : Expr} {v : V} {d : D} {μ : Bool} (h : PE X e (tC v)) (hd : cD v = some d := by rfl) : PE X e (tD μ (eC d)) := h.wk fun σ H Q q => by
  obtain ⟨M0, H0, ρ, d', R, e, q⟩ := q
  cases e
  exact q v H (Same.refl _) (cD.rp hd)
/-- a list of one's own may be left out of what is told, where no list is in it -/
def eStr (f : EF) : EF := fun ρ => (f ρ).bind fun d => if nl d = true then some d else none
theorem dE_str {e : Expr} {f : EF} (h : PE X e (tD false f)) : PE X e (tD true (eStr f)) := h.wk fun σ H Q q => by
  obtain ⟨M0, H0, ρ, d, R, e, q⟩ := q
  obtain ⟨d', z, e⟩ := some_bind e
  split at e
  · rename_i hnl
    cases e
    refine ⟨M0, H0, ρ, _, R, z, fun v H' s r => q v H' s (r.nl hnl fun a m => ?_)⟩
    rcases m with m | ⟨_, i, ds, e1, e2⟩
    · exact .inl (.inl m)
    · obtain ⟨p, vs, x, y, _⟩ := (R.mono s).own i ds e1
      rw [e2] at x
      cases x
      exact .inr ⟨_, y⟩
  · cases e
/-! operators -/
def rD (g : D → D → Option D) : R2 := fun x y H Q => ∃ M a b d, Dom M H ∧ Rp M H x a ∧ Rp M H y b ∧ g a b = some d ∧ ∀ v H', Same H H' → Rp M H' v d → Q v H'
def e2 (g : D → D → Option D) (f1 f2 : EF) : EF := fun ρ => (f1 ρ).bind fun a => (f2 ρ).bind fun b => g a b
theorem dOp2 {g : D → D → Option D} {f1 f2 : EF} {μ : Bool} {σ : L2.St} {H : Hp} {Q : VK} (q : tD μ (e2 g f1 f2) σ H Q) : tOp (rD g) (tD μ f1) (tD μ f2) σ H Q := by
  obtain ⟨M0, H0, ρ, d, R, e, q⟩ := q
  obtain ⟨a, ea, e⟩ := some_bind e
  obtain ⟨b, eb, e⟩ := some_bind e
  exact ⟨M0, H0, ρ, a, R, ea, fun x H1 s1 r1 => ⟨M0, H0, ρ, b, R.mono s1, eb, fun y H2 s2 r2 => ⟨_, a, b, d, (R.mono (s1.trans s2)).domu μ, r1.mono (.of s2), r2, e, fun v H3 s3 r3 => q v H3 ((s1.trans s2).trans s3) r3⟩⟩⟩
theorem dE_op {a b : Expr} {op : Operator} {pos : Pos} {g : D → D → Option D} {f1 f2 : EF} {μ : Bool} (o : OpR X (binaryOp op) (rD g)) (ha : PE X a (tD μ f1)) (hb : PE X b (tD μ f2)) : PE X (.BinOp a op b pos) (tD μ (e2 g f1 f2)) := (pe_op o ha hb).wk fun _ _ _ q => dOp2 q
theorem dE_cmp {a b : Expr} {op : CmpOp} {pos : Pos} {g : D → D → Option D} {f1 f2 : EF} {μ : Bool} (o : OpR X (compareOp op) (rD g)) (ha : PE X a (tD μ f1)) (hb : PE X b (tD μ f2)) (hm : behindInMarks op b = false) : PE X (.Compare a [op] [b] pos) (tD μ (e2 g f1 f2)) := (pe_cmpR o ha hb hm).wk fun _ _ _ q => dOp2 q
def bB : D → Option Bool
  | .bool b => some b
  | _ => none
theorem Rp.ofB {M : Addr → Prop} {H : Hp} {v : V} {d : D} {b : Bool} (r : Rp M H v d) (h : bB d = some b) : v = .bl b := by
  cases r <;> cases h
  rfl
def oB (f : EF) : Rho → Option Bool := fun ρ => (f ρ).bind bB
theorem dTest {f : EF} {μ : Bool} {σ : L2.St} {H : Hp} {Q : Bool → Hp → Prop} (q : tT (oB f) σ H Q) : tD μ f σ H (fun x H1 => ∃ c, x = V.bl c ∧ Q c H1) := by
  obtain ⟨M0, H0, ρ, b, R, e, q⟩ := q
  obtain ⟨d, ed, e⟩ := some_bind e
  exact ⟨M0, H0, ρ, d, R, ed, fun v H1 s r => ⟨b, r.ofB e, q _ s⟩⟩
theorem dT_cmp {a b : Expr} {op : CmpOp} {pos : Pos} {g : D → D → Option D} {f1 f2 : EF} {μ : Bool} (o : OpR X (compareOp op) (rD g)) (ha : PE X a (tD μ f1)) (hb : PE X b (tD μ f2)) (hm : behindInMarks op b = false) : PT X (.Compare a [op] [b] pos) (tT (oB (e2 g f1 f2))) := (pt_cmpR o ha hb hm).wk fun σ H Q q => by
  have := dTest (μ := μ) q
  exact dOp2 this
theorem dT_val {e : Expr} {f : EF} {μ : Bool} (h : PE X e (tD μ f)) (ht : ∀ (whole : Sem Value), PySem.isTrue e X.env whole = (do
          let v ← whole
          standAt e.pos
          holding [v] (truthy v)) := by intro _; rfl) : PT X e (tT (oB f)) := (pt_val h ht).wk fun σ H Q q => dTest q
def oNot (f : Rho → Option Bool) : Rho → Option Bool := fun ρ => (f ρ).map (!·)
theorem dT_not {a : Expr} {pos : Pos} {f : Rho → Option Bool} (h : PT X a (tT f)) : PT X (.UnaryOp .Not a pos) (tT (oNot f)) := (pt_not h).wk fun σ H Q q => by
  obtain ⟨M0, H0, ρ, b, R, e, q⟩ := q
  unfold oNot at e
  cases z : f ρ with
  | none => rw [z] at e; cases e
  | some c => rw [z] at e; cases e; exact ⟨M0, H0, ρ, c, R, z, q⟩
def oAnd (f g : Rho → Option Bool) : Rho → Option Bool := fun ρ => (f ρ).bind fun b => if b = true then g ρ else some false
def oOr (f g : Rho → Option Bool) : Rho → Option Bool := fun ρ => (f ρ).bind fun b => if b = true then some true else g ρ
theorem dW_and1 {a : Expr} {pos : Pos} {f : Rho → Option Bool} (h : PT X a (tT f)) : PW X (.BoolOp .And [a] pos) (tT f) := pw_and1 h
theorem dW_or1 {a : Expr} {pos : Pos} {f : Rho → Option Bool} (h : PT X a (tT f)) : PW X (.BoolOp .Or [a] pos) (tT f) := pw_or1 h
theorem dW_and {a b : Expr} {rest : List Expr} {pos : Pos} {f g : Rho → Option Bool} (ha : PT X a (tT f)) (hb : PW X (.BoolOp .And (b :: rest) pos) (tT g)) : PW X (.BoolOp .And (a :: b :: rest) pos) (tT (oAnd f g)) := (pw_and ha hb).wk fun σ H Q q => by
  obtain ⟨M0, H0, ρ, b, R, e, q⟩ := q
  obtain ⟨c, ec, e⟩ := some_bind e
  refine ⟨M0, H0, ρ, c, R, ec, fun H1 s1 => ?_⟩
  cases c with
  | true => exact ⟨M0, H0, ρ, b, R.mono s1, e, fun H2 s2 => q H2 (s1.trans s2)⟩
  | false => cases e; exact q H1 s1
theorem dW_or {a b : Expr} {rest : List Expr} {pos : Pos} {f g : Rho → Option Bool} (ha : PT X a (tT f)) (hb : PW X (.BoolOp .Or (b :: rest) pos) (tT g)) : PW X (.BoolOp .Or (a :: b :: rest) pos) (tT (oOr f g)) := (pw_or ha hb).wk fun σ H Q q => by
  obtain ⟨M0, H0, ρ, b, R, e, q⟩ := q
  obtain ⟨c, ec, e⟩ := some_bind e
  refine ⟨M0, H0, ρ, c, R, ec, fun H1 s1 => ?_⟩
  cases c with
  | true => cases e; exact q H1 s1
  | false => exact ⟨M0, H0, ρ, b, R.mono s1, e, fun H2 s2 => q H2 (s1.trans s2)⟩
/-! and, or, not, if as values -/
def eAnd (f g : EF) : EF := fun ρ => ((f ρ).bind bB).bind fun b => if b = true then g ρ else some (.bool false)
def eOr (f g : EF) : EF := fun ρ => ((f ρ).bind bB).bind fun b => if b = true then some (.bool true) else g ρ
theorem dE_one {a : Expr} {op : BoolOp} {pos : Pos} {f : EF} {μ : Bool} (h : PE X a (tD μ f)) : PE X (.BoolOp op [a] pos) (tD μ f) := pe_one h
theorem dE_and {a b : Expr} {rest : List Expr} {pos : Pos} {f g : EF} {μ : Bool} (ha : PE X a (tD μ f)) (hb : PE X (.BoolOp .And (b :: rest) pos) (tD μ g)) : PE X (.BoolOp .And (a :: b :: rest) pos) (tD μ (eAnd f g)) := (pe_and ha hb).wk fun σ H Q q => by
  obtain ⟨M0, H0, ρ, d, R, e, q⟩ := q
  obtain ⟨c, ec, e⟩ := some_bind e
  obtain ⟨d1, e1, ec⟩ := some_bind ec
  refine ⟨M0, H0, ρ, d1, R, e1, fun v H1 s1 r1 => ⟨c, r1.ofB ec, ?_⟩⟩
  cases c with
  | true => exact ⟨M0, H0, ρ, d, R.mono s1, e, fun v H2 s2 => q v H2 (s1.trans s2)⟩
  | false => cases e; exact q _ H1 s1 (.bl _)
theorem dE_or {a b : Expr} {rest : List Expr} {pos : Pos} {f g : EF} {μ : Bool} (ha : PE X a (tD μ f)) (hb : PE X (.BoolOp .Or (b :: rest) pos) (tD μ g)) : PE X (.BoolOp .Or (a :: b :: rest) pos) (tD μ (eOr f g)) := (pe_or ha hb).wk fun σ H Q q => by
  obtain ⟨M0, H0, ρ, d, R, e, q⟩ := q
  obtain ⟨c, ec, e⟩ := some_bind e
  obtain ⟨d1, e1, ec⟩ := some_bind ec
  refine ⟨M0, H0, ρ, d1, R, e1, fun v H1 s1 r1 => ⟨c, r1.ofB ec, ?_⟩⟩
  cases c with
  | true => cases e; exact q _ H1 s1 (.bl _)
  | false => exact ⟨M0, H0, ρ, d, R.mono s1, e, fun v H2 s2 => q v H2 (s1.trans s2)⟩
def eNot (f : EF) : EF := fun ρ => ((f ρ).bind bB).map fun b => .bool (!b)
theorem dE_not {a : Expr} {pos : Pos} {f : EF} {μ : Bool} (h : PE X a (tD μ f)) : PE X (.UnaryOp .Not a pos) (tD μ (eNot f)) := (pe_not h).wk fun σ H Q q => by
  obtain ⟨M0, H0, ρ, d, R, e, q⟩ := q
  unfold eNot at e
  cases z : (f ρ).bind bB with
  | none => rw [z] at e; cases e
  | some c =>
    rw [z] at e
    cases e
    obtain ⟨d1, e1, ec⟩ := some_bind z
    exact ⟨M0, H0, ρ, d1, R, e1, fun v H1 s1 r1 => ⟨c, r1.ofB ec, q _ _ s1 (.bl _)⟩⟩
/-- truth of data -/
def trD : D → Option Bool
  | .none => some false
  | .bool b => some b
  | .int i => some (i != 0)
  | .tuple ds => some (!ds.isEmpty)
  | .list ds => some (!ds.isEmpty)
  | _ => none
theorem Rp.tru {K : PySem.W.Frag} {M : Addr → Prop} {H : Hp} {v : V} {d : D} {b : Bool} (r : Rp M H v d) (h : trD d = some b) : TruV K v H b := by
  cases r with
  | non => cases h; rfl
  | bl b => cases h; rfl
  | int i => cases h; rfl
  | str x hx => cases h
  | tup t n l a =>
    cases h
    refine .inr (.inl ⟨_, t.sq, ?_⟩)
    cases a <;> rfl
  | lst t n l a =>
    cases h
    refine .inl ⟨_, SqL.of t, ?_⟩
    cases a <;> rfl
  | dic t n => cases h
  | dct t n => cases h
def eOrT (f g : EF) : EF := fun ρ => (f ρ).bind fun d => (trD d).bind fun b => if b = true then some d else g ρ
theorem dE_orT {a b : Expr} {rest : List Expr} {pos : Pos} {f g : EF} {μ : Bool} (ha : PE X a (tD μ f)) (hb : PE X (.BoolOp .Or (b :: rest) pos) (tD μ g)) : PE X (.BoolOp .Or (a :: b :: rest) pos) (tD μ (eOrT f g)) := (pe_orT ha hb).wk fun σ H Q q => by
  obtain ⟨M0, H0, ρ, d, R, e, q⟩ := q
  obtain ⟨d1, e1, e⟩ := some_bind e
  obtain ⟨c, ec, e⟩ := some_bind e
  refine ⟨M0, H0, ρ, d1, R, e1, fun v H1 s1 r1 => ⟨c, r1.tru ec, ?_⟩⟩
  cases c with
  | true => cases e; exact q _ H1 s1 r1
  | false => exact ⟨M0, H0, ρ, d, R.mono s1, e, fun v H2 s2 => q v H2 (s1.trans s2)⟩
def oTr (f : EF) : Rho → Option Bool := fun ρ => (f ρ).bind trD
theorem dT_truth {e : Expr} {f : EF} {μ : Bool} (h : PE X e (tD μ f)) (ht : ∀ (whole : Sem Value), PySem.isTrue e X.env whole = (do
          let v ← whole
          standAt e.pos
          holding [v] (truthy v)) := by intro _; rfl) : PT X e (tT (oTr f)) := (pt_truth h ht).wk fun σ H Q q => by
  obtain ⟨M0, H0, ρ, b, R, e, q⟩ := q
  obtain ⟨d1, e1, e⟩ := some_bind e
  exact ⟨M0, H0, ρ, d1, R, e1, fun v H1 s1 r1 => ⟨b, r1.tru e, q _ s1⟩⟩
def eIf (c : Rho → Option Bool) (f g : EF) : EF := fun ρ => (c ρ).bind fun b => if b = true then f ρ else g ρ
theorem dE_if {a b c : Expr} {pos : Pos} {t : Rho → Option Bool} {f g : EF} {μ : Bool} (hc : PT X c (tT t)) (ha : PE X a (tD μ f)) (hb : PE X b (tD μ g)) : PE X (c.IfExp a b pos) (tD μ (eIf t f g)) := (pe_ifExp hc ha hb).wk fun σ H Q q => by
  obtain ⟨M0, H0, ρ, d, R, e, q⟩ := q
  obtain ⟨c, ec, e⟩ := some_bind e
  refine ⟨M0, H0, ρ, c, R, ec, fun H1 s1 => ?_⟩
  cases c with
  | true => exact ⟨M0, H0, ρ, d, R.mono s1, e, fun v H2 s2 => q v H2 (s1.trans s2)⟩
  | false => exact ⟨M0, H0, ρ, d, R.mono s1, e, fun v H2 s2 => q v H2 (s1.trans s2)⟩
def eChain (g g' : D → D → Option D) (f1 f2 f3 : EF) : EF := fun ρ => (f1 ρ).bind fun a => (f2 ρ).bind fun b => ((g a b).bind bB).bind fun k => if k = true then (f3 ρ).bind fun c => g' b c else some (.bool false)
theorem dChain {g g' : D → D → Option D} {f1 f2 f3 : EF} {μ : Bool} {σ : L2.St} {H : Hp} {Q : VK} (q : tD μ (eChain g g' f1 f2 f3) σ H Q) : tChain (rD g) (rD g') (tD μ f1) (tD μ f2) (tD μ f3) σ H Q := by
  obtain ⟨M0, H0, ρ, d, R, e, q⟩ := q
  obtain ⟨a, ea, e⟩ := some_bind e
  obtain ⟨b, eb, e⟩ := some_bind e
  obtain ⟨k, ek, e⟩ := some_bind e
  obtain ⟨z, ez, ek⟩ := some_bind ek
  refine ⟨M0, H0, ρ, a, R, ea, fun x H1 s1 r1 => ⟨M0, H0, ρ, b, R.mono s1, eb, fun y H2 s2 r2 => ⟨_, a, b, z, (R.mono (s1.trans s2)).domu μ, r1.mono (.of s2), r2, ez, fun v H3 s3 r3 => ⟨k, r3.ofB ek, ?_⟩⟩⟩⟩
  have s13 := (s1.trans s2).trans s3
  cases k with
  | true =>
    obtain ⟨c, ec, e⟩ := some_bind e
    exact ⟨M0, H0, ρ, c, R.mono s13, ec, fun w H4 s4 r4 => ⟨_, b, c, d, (R.mono (s13.trans s4)).domu μ, r2.mono (.of (s3.trans s4)), r4, e, fun v H5 s5 r5 => q v H5 ((s13.trans s4).trans s5) r5⟩⟩
  | false => cases e; exact q _ _ s13 (.bl _)
theorem dE_chain {a b c : Expr} {op op' : CmpOp} {pos : Pos} {g g' : D → D → Option D} {f1 f2 f3 : EF} {μ : Bool} (o : OpR X (compareOp op) (rD g)) (o' : OpR X (compareOp op') (rD g')) (ha : PE X a (tD μ f1)) (hb : PE X b (tD μ f2)) (hc : PE X c (tD μ f3)) (hm : lastMarks [op, op'] [b, c] = false := by rfl) : PE X (a.Compare [op, op'] [b, c] pos) (tD μ (eChain g g' f1 f2 f3)) := (pe_chain o o' ha hb hc hm).wk fun _ _ _ q => dChain q
theorem dT_chain {a b c : Expr} {op op' : CmpOp} {pos : Pos} {g g' : D → D → Option D} {f1 f2 f3 : EF} {μ : Bool} (o : OpR X (compareOp op) (rD g)) (o' : OpR X (compareOp op') (rD g')) (ha : PE X a (tD μ f1)) (hb : PE X b (tD μ f2)) (hc : PE X c (tD μ f3)) (hm : lastMarks [op, op'] [b, c] = false := by rfl) : PT X (a.Compare [op, op'] [b, c] pos) (tT (oB (eChain g g' f1 f2 f3))) := (pt_chain o o' ha hb hc hm).wk fun _ _ _ q => by
  have := dTest (μ := μ) q
  exact dChain this
end
end Dl
namespace Dl
open PySem PySem.Spec PyProof.Rows L2 Rt
section
variable {X : Cx}
/-- a tuple that was made -/
theorem Inv.tupF {pn : List (Addr × Obj)} {σ : L2.St} {H : Hp} {s : Shared} {us : List Value} {xs : List V} (I : L2.Inv X pn σ H s) (r : Vals xs us) (hz : xs.length ≤ sizeLine) :
    L2.Inv X pn σ (upd H s.heap.objs.size (.frz { cls := .type "tuple", data := .seq us.toArray } (.tup xs))) { s with heap := s.heap.push { cls := .type "tuple", data := .seq us.toArray } } :=
  I.laid (t' := s.toks) (fun b o e => Heap.get?_push_of_some _ e) (Nat.le_refl _) (show ObjOk X.prog X.w _ _ _ (.frz { cls := .type "tuple", data := .seq us.toArray } (.tup xs)) from ⟨Heap.get?_push_size _ rfl, hz, us, r, IsTup.new _ _⟩)
theorem updF {H : Hp} {p : Addr} {xs : List V} {us : List Value} : TupF (upd H p (.frz { cls := .type "tuple", data := .seq us.toArray } (.tup xs))) p xs := ⟨_, upd_same, rfl⟩
/-- (a, b) -/
def tTupF (t : TA) : TE := fun σ H Q => t σ H fun xs H1 => xs.length ≤ sizeLine ∧ ∀ p H', H1 p = none → Same H1 H' → TupF H' p xs → Q (.ref p) H'
theorem pe_tupF {es : List Expr} {t : TA} {x1 : Nat} {pos : Pos} (h : PA X es t) : PE X (.Tuple es x1 pos) (tTupF t) :=
  ⟨fun pn s σ H Q I hq => wpAny_Tuple_spliced (thn (h.run pos pn s σ H _ I hq) fun us s1 ⟨xs, H1, I1, r, z, q⟩ => ⟨by rw [← r.length]; exact z, .ref s1.heap.objs.size, _, Inv.tupF I1 r z, rfl, q _ _ (I1.hok.fresh (Nat.le_refl _)) (smN (I1.hok.fresh (Nat.le_refl _))) updF⟩)⟩
/-- t + u -/
def rCatF : R2 := fun x y H Q => ∃ a b xs ys, x = .ref a ∧ y = .ref b ∧ TupF H a xs ∧ TupF H b ys ∧ xs.length + ys.length ≤ sizeLine ∧ ∀ p H', (H p = none ∨ p = a ∨ p = b) → Same H H' → TupF H' p (xs ++ ys) → Q (.ref p) H'
theorem op_catF : OpR X (binaryOp .Add) rCatF := by
  intro pins s σ H x y v u Q I rx ry h
  obtain ⟨a, b, xs, ys, rfl, rfl, ha, hb, hz, q⟩ := h
  by_cases e1 : xs = []
  · subst e1
    exact op_catA pins s σ H _ _ v u Q I rx ry ⟨a, b, [], ys, rfl, rfl, ha.sq, hb.sq, hz, fun e => q b H (.inr (.inr rfl)) (Same.refl H) hb, fun e _ => (e rfl).elim, fun e _ => (e rfl).elim⟩
  by_cases e2 : ys = []
  · subst e2
    refine op_catA pins s σ H _ _ v u Q I rx ry ⟨a, b, xs, [], rfl, rfl, ha.sq, hb.sq, hz, fun e => (e1 e).elim, fun _ _ => q a H (.inr (.inl rfl)) (Same.refl H) (by rw [List.append_nil]; exact ha), fun _ e => (e rfl).elim⟩
  cases rx
  cases ry
  obtain ⟨its, r1, p1, _⟩ := I.tuple (ha.sq (K := X.K))
  obtain ⟨its2, r2, p2, _⟩ := I.tuple (hb.sq (K := X.K))
  refine HT.cat_tup p1 p2 (fun z => e1 (r1.nil_iff.mp z)) (fun z => (e2 (r2.nil_iff.mp z)).elim) (fun z => ?_) (by rw [← r1.length, ← r2.length]; exact hz)
  have fr := I.hok.fresh (Nat.le_refl s.heap.objs.size)
  exact ⟨.ref s.heap.objs.size, _, Inv.tupF I (r1.append r2) (by rw [List.length_append]; exact hz), rfl, q _ _ (.inl fr) (smN fr) updF⟩
/-- t[lo:hi] -/
def rSlF : V → Option Int → Option Int → Hp → VK → Prop := fun x lo hi H Q => ∃ a xs, x = .ref a ∧ TupF H a xs ∧ ∀ p H', (H p = none ∨ p = a) → Same H H' → TupF H' p (cutV xs lo hi) → Q (.ref p) H'
theorem sl_tupF : SlR X rSlF := by
  intro pins s σ H x v vl vu lo hi sl Q I rx hs pl pu h
  obtain ⟨a, xs, rfl, ha, q⟩ := h
  by_cases hw : HT.sIx xs.length 0 lo = 0 ∧ HT.sIx xs.length xs.length hi = xs.length
  · refine sl_tupA pins s σ H _ v vl vu lo hi sl Q I rx hs pl pu ⟨a, xs, rfl, ha.sq, fun hw => q a H (.inr rfl) (Same.refl H) ?_, fun h => (h hw).elim⟩
    unfold cutV
    rw [hw.1, hw.2, List.drop_zero, Nat.sub_zero, List.take_length]
    exact ha
  cases rx
  obtain ⟨its, r, ht, hz⟩ := I.tuple (ha.sq (K := X.K))
  have hlen : its.toArray.size = xs.length := by rw [List.size_toArray]; exact r.length.symm
  have fr := I.hok.fresh (Nat.le_refl s.heap.objs.size)
  refine ⟨"tuple", "tuple.__getitem__", PyProof.Rows.slot_tuple_getitem.lookup, ht.typeIs, HT.getItem_tuple_cut ht hs pl pu (by rw [hlen]; exact hw) ?_ (by rw [hlen]; exact hz)⟩
  rw [hlen]
  exact ⟨.ref s.heap.objs.size, _, Inv.tupF I ((r.drop _).take _) (Nat.le_trans (cutV_length xs lo hi) hz), rfl, q _ _ (.inl fr) (smN fr) updF⟩
end
end Dl
namespace Dl
open PySem PySem.Spec PyProof.Rows L2 Rt
theorem iteS {α : Type} {c : Prop} [Decidable c] {a b : α} (h : (if c then some a else none) = some b) : c ∧ a = b := by
  by_cases e : c
  · rw [if_pos e] at h; cases h; exact ⟨e, rfl⟩
  · rw [if_neg e] at h; cases h
/-! what operators tell -/
def addD : D → D → Option D
  | .int i, .int j => some (.int (i + j))
  | .tuple a, .tuple b => if a.length + b.length ≤ sizeLine then some (.tuple (a ++ b)) else none
  | .list a, .list b => if a.length + b.length ≤ sizeLine then some (.list (a ++ b)) else none
  | .str a, .str b => if a.length + b.length ≤ sizeLine then some (.str (a ++ b)) else none
  | _, _ => none
def subD : D → D → Option D
  | .int i, .int j => some (.int (i - j))
  | _, _ => none
def mulD : D → D → Option D
  | .int i, .int j => if (-(2 ^ 64) < i ∧ i < 2 ^ 64) ∨ (-(2 ^ 64) < j ∧ j < 2 ^ 64) then some (.int (i * j)) else none
  | _, _ => none
def modD : D → D → Option D
  | .int i, .int j => if 0 < j then some (.int (i % j)) else none
  | _, _ => none
def fdivD : D → D → Option D
  | .int i, .int j => if 0 < j ∧ j < 2 ^ 60 then some (.int (i / j)) else none
  | _, _ => none
def powD : D → D → Option D
  | .int i, .int j => if 0 ≤ j ∧ j ≤ 1000000 ∧ i.natAbs < 2 ^ 64 then some (.int (i ^ j.toNat)) else none
  | _, _ => none
def ltD : D → D → Option D
  | .int i, .int j => some (.bool (decide (i < j)))
  | .str i, .str j => some (.bool (decide (i.cps.toList < j.cps.toList)))
  | _, _ => none
def leD : D → D → Option D
  | .int i, .int j => some (.bool (decide (i ≤ j)))
  | .str i, .str j => some (.bool (!decide (j.cps.toList < i.cps.toList)))
  | _, _ => none
def gtD : D → D → Option D
  | .int i, .int j => some (.bool (decide (i > j)))
  | _, _ => none
def geD : D → D → Option D
  | .int i, .int j => some (.bool (decide (i ≥ j)))
  | .str i, .str j => some (.bool (!decide (i.cps.toList < j.cps.toList)))
  | _, _ => none
/-- it can be compared and shown: no dict in it, not too deep -/
def okD (d : D) : Bool := !d.hasDict && SeqAt.shaped d
def eqD (a b : D) : Option D := if (okD a && okD b) = true then some (.bool (PyData.eqv a b)) else none
def neD (a b : D) : Option D := if (okD a && okD b) = true then some (.bool (!PyData.eqv a b)) else none
def isND : D → D → Option D
  | .none, .none => some (.bool true)
  | _, .none => some (.bool false)
  | _, _ => none
def noND : D → D → Option D
  | .none, .none => some (.bool false)
  | _, .none => some (.bool true)
  | _, _ => none
def inD : D → D → Option D
  | a, .tuple ds => if (okD a && okD (.tuple ds)) = true then some (.bool (ds.any fun z => PyData.eqv z a)) else none
  | a, .list ds => if (okD a && okD (.list ds)) = true then some (.bool (ds.any fun z => PyData.eqv z a)) else none
  | .str i, .str j => match i.cps.toList with
    | [c] => some (.bool (decide (c ∈ j.cps.toList)))
    | _ => none
  | _, _ => none
def ninD : D → D → Option D
  | a, .tuple ds => if (okD a && okD (.tuple ds)) = true then some (.bool (!ds.any fun z => PyData.eqv z a)) else none
  | a, .list ds => if (okD a && okD (.list ds)) = true then some (.bool (!ds.any fun z => PyData.eqv z a)) else none
  | .str i, .str j => match i.cps.toList with
    | [c] => some (.bool (!decide (c ∈ j.cps.toList)))
    | _ => none
  | _, _ => none
theorem one_sign {i : Str} {c : Nat} (h : i.cps.toList = [c]) : i = ⟨#[c]⟩ := by
  cases i with
  | mk a =>
    have h : a.toList = [c] := h
    congr
    rw [← Array.toArray_toList (xs := a), h]
theorem okD.parts {d : D} (h : okD d = true) : d.hasDict = false ∧ SeqAt.shaped d = true := by
  have := Bool.and_eq_true_iff.mp h
  exact ⟨by simpa using this.1, this.2⟩
section
variable {X : Cx}
theorem o_add : OpR X (binaryOp .Add) (rD addD) := by
  intro pn s σ H x y v u Q I rx ry h
  obtain ⟨M, a, b, d, dm, ra, rb, e, q⟩ := h
  cases ra <;> cases rb <;> try (cases e; done)
  · cases e
    exact op_add pn s σ H _ _ v u Q I rx ry ⟨_, _, rfl, rfl, q _ _ (Same.refl _) (.int _)⟩
  · obtain ⟨l, rfl⟩ := iteS e
    exact op_add_str pn s σ H _ _ v u Q I rx ry ⟨_, _, rfl, rfl, l, q _ _ (Same.refl _) (.str _ (by show (Array.size (_ ++ _)) ≤ _; rw [Array.size_append]; exact l))⟩
  · rename_i t1 n1 l1 r1 _ _ _ t2 n2 l2 r2
    obtain ⟨l, rfl⟩ := iteS e
    refine op_catF pn s σ H _ _ v u Q I rx ry ⟨_, _, _, _, rfl, rfl, t1, t2, by rw [r1.len, r2.len]; exact l, fun p H' hp sm t => q _ H' sm (.tup t (fun m => ?_) (by rw [List.length_append, r1.len, r2.len]; exact l) ((r1.mono (.of sm)).app (r2.mono (.of sm))))⟩
    rcases hp with hp | hp | hp
    · exact dm p m hp
    · rw [hp] at m; exact n1 m
    · rw [hp] at m; exact n2 m
  · rename_i t1 n1 l1 r1 _ _ _ t2 n2 l2 r2
    obtain ⟨l, rfl⟩ := iteS e
    exact op_cat pn s σ H _ _ v u Q I rx ry ⟨_, _, _, _, rfl, rfl, t1, t2, by rw [r1.len, r2.len]; exact l, fun p hp => q _ _ (smN hp) (.lst upd_same (fun m => dm p m hp) (by rw [List.length_append, r1.len, r2.len]; exact l) ((r1.mono (.of (smN hp))).app (r2.mono (.of (smN hp)))))⟩
theorem o_sub : OpR X (binaryOp .Sub) (rD subD) := by
  intro pn s σ H x y v u Q I rx ry h
  obtain ⟨M, a, b, d, dm, ra, rb, e, q⟩ := h
  cases ra <;> cases rb <;> try (cases e; done)
  cases e
  exact op_sub pn s σ H _ _ v u Q I rx ry ⟨_, _, rfl, rfl, q _ _ (Same.refl _) (.int _)⟩
theorem o_mul : OpR X (binaryOp .Mult) (rD mulD) := by
  intro pn s σ H x y v u Q I rx ry h
  obtain ⟨M, a, b, d, dm, ra, rb, e, q⟩ := h
  cases ra <;> cases rb <;> try (cases e; done)
  obtain ⟨l, rfl⟩ := iteS e
  exact op_mul pn s σ H _ _ v u Q I rx ry ⟨_, _, rfl, rfl, l, q _ _ (Same.refl _) (.int _)⟩
theorem o_mod : OpR X (binaryOp .Mod) (rD modD) := by
  intro pn s σ H x y v u Q I rx ry h
  obtain ⟨M, a, b, d, dm, ra, rb, e, q⟩ := h
  cases ra <;> cases rb <;> try (cases e; done)
  obtain ⟨l, rfl⟩ := iteS e
  exact op_mod pn s σ H _ _ v u Q I rx ry ⟨_, _, rfl, rfl, l, q _ _ (Same.refl _) (.int _)⟩
theorem o_fdiv : OpR X (binaryOp .FloorDiv) (rD fdivD) := by
  intro pn s σ H x y v u Q I rx ry h
  obtain ⟨M, a, b, d, dm, ra, rb, e, q⟩ := h
  cases ra <;> cases rb <;> try (cases e; done)
  obtain ⟨l, rfl⟩ := iteS e
  exact op_fdivW pn s σ H _ _ v u Q I rx ry ⟨_, _, rfl, rfl, wide_div (b := 60) l.1 (by omega) (by decide) (by decide), q _ _ (Same.refl _) (.int _)⟩
theorem o_pow : OpR X (binaryOp .Pow) (rD powD) := by
  intro pn s σ H x y v u Q I rx ry h
  obtain ⟨M, a, b, d, dm, ra, rb, e, q⟩ := h
  cases ra <;> cases rb <;> try (cases e; done)
  obtain ⟨l, rfl⟩ := iteS e
  exact op_pow pn s σ H _ _ v u Q I rx ry ⟨_, _, rfl, rfl, l, q _ _ (Same.refl _) (.int _)⟩
theorem o_lt : OpR X (compareOp .Lt) (rD ltD) := by
  intro pn s σ H x y v u Q I rx ry h
  obtain ⟨M, a, b, d, dm, ra, rb, e, q⟩ := h
  cases ra <;> cases rb <;> try (cases e; done)
  · cases e
    exact op_lt pn s σ H _ _ v u Q I rx ry ⟨_, _, rfl, rfl, q _ _ (Same.refl _) (.bl _)⟩
  · cases e
    exact op_lt_str pn s σ H _ _ v u Q I rx ry ⟨_, _, rfl, rfl, q _ _ (Same.refl _) (.bl _)⟩
theorem o_le : OpR X (compareOp .LtE) (rD leD) := by
  intro pn s σ H x y v u Q I rx ry h
  obtain ⟨M, a, b, d, dm, ra, rb, e, q⟩ := h
  cases ra <;> cases rb <;> try (cases e; done)
  · cases e
    exact op_le pn s σ H _ _ v u Q I rx ry ⟨_, _, rfl, rfl, q _ _ (Same.refl _) (.bl _)⟩
  · cases e
    exact op_le_str pn s σ H _ _ v u Q I rx ry ⟨_, _, rfl, rfl, q _ _ (Same.refl _) (.bl _)⟩
theorem o_gt : OpR X (compareOp .Gt) (rD gtD) := by
  intro pn s σ H x y v u Q I rx ry h
  obtain ⟨M, a, b, d, dm, ra, rb, e, q⟩ := h
  cases ra <;> cases rb <;> try (cases e; done)
  cases e
  exact op_gt pn s σ H _ _ v u Q I rx ry ⟨_, _, rfl, rfl, q _ _ (Same.refl _) (.bl _)⟩
theorem o_ge : OpR X (compareOp .GtE) (rD geD) := by
  intro pn s σ H x y v u Q I rx ry h
  obtain ⟨M, a, b, d, dm, ra, rb, e, q⟩ := h
  cases ra <;> cases rb <;> try (cases e; done)
  · cases e
    exact op_ge pn s σ H _ _ v u Q I rx ry ⟨_, _, rfl, rfl, q _ _ (Same.refl _) (.bl _)⟩
  · cases e
    exact op_ge_str pn s σ H _ _ v u Q I rx ry ⟨_, _, rfl, rfl, q _ _ (Same.refl _) (.bl _)⟩
theorem o_eq (hu : X.A.units + 64 < cLine) : OpR X (compareOp .Eq) (rD eqD) := by
  intro pn s σ H x y v u Q I rx ry h
  obtain ⟨M, a, b, d, dm, ra, rb, e, q⟩ := h
  obtain ⟨l, rfl⟩ := iteS e
  have l := Bool.and_eq_true_iff.mp l
  exact op_eqD hu pn s σ H _ _ v u Q I rx ry ⟨a, b, ra.dp (okD.parts l.1).1, rb.dp (okD.parts l.2).1, (okD.parts l.1).2, (okD.parts l.2).2, q _ _ (Same.refl _) (.bl _)⟩
theorem o_ne (hu : X.A.units + 64 < cLine) : OpR X (compareOp .NotEq) (rD neD) := by
  intro pn s σ H x y v u Q I rx ry h
  obtain ⟨M, a, b, d, dm, ra, rb, e, q⟩ := h
  obtain ⟨l, rfl⟩ := iteS e
  have l := Bool.and_eq_true_iff.mp l
  exact op_neD hu pn s σ H _ _ v u Q I rx ry ⟨a, b, ra.dp (okD.parts l.1).1, rb.dp (okD.parts l.2).1, (okD.parts l.1).2, (okD.parts l.2).2, q _ _ (Same.refl _) (.bl _)⟩
theorem o_is : OpR X (compareOp .Is) (rD isND) := by
  intro pn s σ H x y v u Q I rx ry h
  obtain ⟨M, a, b, d, dm, ra, rb, e, q⟩ := h
  cases rb <;> (try (cases ra <;> cases e; done))
  refine op_isN pn s σ H _ _ v u Q I rx ry ⟨rfl, ?_⟩
  cases ra <;> cases e <;> exact q _ _ (Same.refl _) (.bl _)
theorem o_isnot : OpR X (compareOp .IsNot) (rD noND) := by
  intro pn s σ H x y v u Q I rx ry h
  obtain ⟨M, a, b, d, dm, ra, rb, e, q⟩ := h
  cases rb <;> (try (cases ra <;> cases e; done))
  refine op_notN pn s σ H _ _ v u Q I rx ry ⟨rfl, ?_⟩
  cases ra <;> cases e <;> exact q _ _ (Same.refl _) (.bl _)
theorem o_in (hu : X.A.units + 65 < cLine) : OpR X (compareOp .In) (rD inD) := by
  intro pn s σ H x y v u Q I rx ry h
  obtain ⟨M, a, b, d, dm, ra, rb, e, q⟩ := h
  cases rb <;> (try (cases ra <;> cases e; done))
  · cases ra <;> try (cases e; done)
    rename_i i hi
    simp only [inD] at e
    split at e
    · rename_i c hc
      cases e
      exact op_in_sign pn s σ H _ _ v u Q I rx ry ⟨c, _, by rw [one_sign hc], rfl, q _ _ (Same.refl _) (.bl _)⟩
    · cases e
  · rename_i xs ds t n l r
    obtain ⟨l2, rfl⟩ := iteS (show (if (okD a && okD (.tuple ds)) = true then some (PyData.bool (ds.any fun z => PyData.eqv z a)) else none) = some d by cases a <;> exact e)
    have l2 := Bool.and_eq_true_iff.mp l2
    have rb : Rp M H (.ref _) (.tuple ds) := .tup t n l r
    obtain ⟨as, r1⟩ := Dp.reads I _ _ v (ra.dp (okD.parts l2.1).1) rx
    obtain ⟨bs, r2⟩ := Dp.reads I _ _ u (rb.dp (okD.parts l2.2).1) ry
    exact SeqAt.in_tuple_reads r2 r1 (SeqAt.canLay_of_shaped (okD.parts l2.2).2) (SeqAt.canLay_of_shaped (okD.parts l2.1).2) (room_in_shaped (okD.parts l2.1).2 hu) ⟨.bl _, H, I, rfl, q _ _ (Same.refl _) (.bl _)⟩
  · rename_i xs ds t n l r
    obtain ⟨l2, rfl⟩ := iteS (show (if (okD a && okD (.list ds)) = true then some (PyData.bool (ds.any fun z => PyData.eqv z a)) else none) = some d by cases a <;> exact e)
    have l2 := Bool.and_eq_true_iff.mp l2
    have rb : Rp M H (.ref _) (.list ds) := .lst t n l r
    exact op_inD hu pn s σ H _ _ v u Q I rx ry ⟨a, ds, ra.dp (okD.parts l2.1).1, rb.dp (okD.parts l2.2).1, (okD.parts l2.1).2, (okD.parts l2.2).2, q _ _ (Same.refl _) (.bl _)⟩
theorem o_nin (hu : X.A.units + 65 < cLine) : OpR X (compareOp .NotIn) (rD ninD) := by
  intro pn s σ H x y v u Q I rx ry h
  obtain ⟨M, a, b, d, dm, ra, rb, e, q⟩ := h
  cases rb <;> (try (cases ra <;> cases e; done))
  · cases ra <;> try (cases e; done)
    rename_i i hi
    simp only [ninD] at e
    split at e
    · rename_i c hc
      cases e
      exact op_notIn_sign pn s σ H _ _ v u Q I rx ry ⟨c, _, by rw [one_sign hc], rfl, q _ _ (Same.refl _) (.bl _)⟩
    · cases e
  · rename_i xs ds t n l r
    obtain ⟨l2, rfl⟩ := iteS (show (if (okD a && okD (.tuple ds)) = true then some (PyData.bool (!ds.any fun z => PyData.eqv z a)) else none) = some d by cases a <;> exact e)
    have l2 := Bool.and_eq_true_iff.mp l2
    have rb : Rp M H (.ref _) (.tuple ds) := .tup t n l r
    obtain ⟨as, r1⟩ := Dp.reads I _ _ v (ra.dp (okD.parts l2.1).1) rx
    obtain ⟨bs, r2⟩ := Dp.reads I _ _ u (rb.dp (okD.parts l2.2).1) ry
    exact SeqAt.notIn_tuple_reads r2 r1 (SeqAt.canLay_of_shaped (okD.parts l2.2).2) (SeqAt.canLay_of_shaped (okD.parts l2.1).2) (room_in_shaped (okD.parts l2.1).2 hu) ⟨.bl _, H, I, rfl, q _ _ (Same.refl _) (.bl _)⟩
  · rename_i xs ds t n l r
    obtain ⟨l2, rfl⟩ := iteS (show (if (okD a && okD (.list ds)) = true then some (PyData.bool (!ds.any fun z => PyData.eqv z a)) else none) = some d by cases a <;> exact e)
    have l2 := Bool.and_eq_true_iff.mp l2
    have rb : Rp M H (.ref _) (.list ds) := .lst t n l r
    exact op_notInD hu pn s σ H _ _ v u Q I rx ry ⟨a, ds, ra.dp (okD.parts l2.1).1, rb.dp (okD.parts l2.2).1, (okD.parts l2.1).2, (okD.parts l2.2).2, q _ _ (Same.refl _) (.bl _)⟩
def negD : D → Option D
  | .int i => some (.int (-i))
  | _ => none
def e1 (g : D → Option D) (f : EF) : EF := fun ρ => (f ρ).bind g
theorem dE_neg {a : Expr} {pos : Pos} {f : EF} {μ : Bool} (h : PE X a (tD μ f)) : PE X (.UnaryOp .USub a pos) (tD μ (e1 negD f)) := (pe_un un_neg h).wk fun σ H Q q => by
  obtain ⟨M0, H0, ρ, d, R, e, q⟩ := q
  obtain ⟨d1, e1, e⟩ := some_bind e
  refine ⟨M0, H0, ρ, d1, R, e1, fun v H1 s1 r1 => ?_⟩
  cases r1 <;> cases e
  exact ⟨_, rfl, q _ _ s1 (.int _)⟩
/-! arguments, displays, subscripts, slices -/
def aNil : Rho → Option (List D) := fun _ => some []
def aCons (f : EF) (g : Rho → Option (List D)) : Rho → Option (List D) := fun ρ => (f ρ).bind fun d => (g ρ).map fun ds => d :: ds
theorem dA_nil {μ : Bool} : PA X [] (tA μ aNil) := PA.weak pa_nil fun σ H Q q => by
  obtain ⟨M0, H0, ρ, ds, R, e, q⟩ := q
  cases e
  exact ⟨Q, q [] H (Same.refl _) .nil, fun _ _ z => z⟩
theorem dA_cons {e : Expr} {es : List Expr} {f : EF} {g : Rho → Option (List D)} {μ : Bool} (h : PE X e (tD μ f)) (hs : PA X es (tA μ g)) (he : starEach (e :: es) X.env = (false, eval e X.env) :: starEach es X.env := by rfl) : PA X (e :: es) (tA μ (aCons f g)) := PA.weak (pa_cons h hs he) fun σ H Q q => by
  obtain ⟨M0, H0, ρ, ds, R, e, q⟩ := q
  obtain ⟨d, ed, e⟩ := some_bind e
  cases z : g ρ with
  | none => rw [z] at e; cases e
  | some r =>
    rw [z] at e
    cases e
    exact ⟨Q, ⟨M0, H0, ρ, d, R, ed, fun v H1 s1 r1 => ⟨M0, H0, ρ, r, R.mono s1, z, fun vs H2 s2 r2 => q _ H2 (s1.trans s2) (.cons (r1.mono (.of s2)) r2)⟩⟩, fun _ _ z => z⟩
def eTup (g : Rho → Option (List D)) : EF := fun ρ => (g ρ).bind fun ds => if ds.length ≤ sizeLine then some (.tuple ds) else none
def eLst (g : Rho → Option (List D)) : EF := fun ρ => (g ρ).bind fun ds => if ds.length ≤ sizeLine then some (.list ds) else none
theorem dE_tup {es : List Expr} {x1 : Nat} {pos : Pos} {g : Rho → Option (List D)} {μ : Bool} (h : PA X es (tA μ g)) : PE X (.Tuple es x1 pos) (tD μ (eTup g)) := (pe_tupF h).wk fun σ H Q q => by
  obtain ⟨M0, H0, ρ, d, R, e, q⟩ := q
  obtain ⟨ds, ed, e⟩ := some_bind e
  obtain ⟨l, rfl⟩ := iteS e
  exact ⟨M0, H0, ρ, ds, R, ed, fun vs H1 s1 r1 => ⟨by rw [r1.len]; exact l, fun p H2 np s2 t => q _ H2 (s1.trans s2) (.tup t ((R.mono s1).domu μ |>.not np) (by rw [r1.len]; exact l) (r1.mono (.of s2)))⟩⟩
theorem dE_lst {es : List Expr} {pos : Pos} {g : Rho → Option (List D)} {μ : Bool} (h : PA X es (tA μ g)) : PE X (.List es pos) (tD μ (eLst g)) := (pe_lst h).wk fun σ H Q q => by
  obtain ⟨M0, H0, ρ, d, R, e, q⟩ := q
  obtain ⟨ds, ed, e⟩ := some_bind e
  obtain ⟨l, rfl⟩ := iteS e
  exact ⟨M0, H0, ρ, ds, R, ed, fun vs H1 s1 r1 => ⟨by rw [r1.len]; exact l, fun p np => q _ _ (s1.trans (smN np)) (.lst upd_same ((R.mono s1).domu μ |>.not np) (by rw [r1.len]; exact l) (r1.mono (.of (smN np))))⟩⟩
def ixD : D → D → Option D
  | .tuple ds, .int i => atI ds i
  | .list ds, .int i => atI ds i
  | _, _ => none
theorem RpAll.atI {M : Addr → Prop} {H : Hp} {vs : List V} {ds : List D} {i : Int} {d : D} (h : RpAll M H vs ds) (e : L2.atI ds i = some d) : ∃ v, L2.atI vs i = some v ∧ Rp M H v d := by
  unfold L2.atI at e ⊢
  rw [h.len]
  obtain ⟨j, ej, e⟩ := some_bind e
  obtain ⟨v, a, b⟩ := h.get e
  exact ⟨v, by rw [ej]; exact a, b⟩
theorem i_ix : IxR X (rD ixD) := by
  intro ve sl pn s σ H x y v u Q I rx ry h hs
  obtain ⟨M, a, b, d, dm, ra, rb, e, q⟩ := h
  cases ra <;> cases rb <;> try (cases e; done)
  · rename_i t n l r i
    obtain ⟨w, ew, rw⟩ := r.atI (show L2.atI _ _ = some d from e)
    exact ix_tup ve sl pn s σ H _ _ v u Q I rx ry ⟨_, _, i, w, rfl, rfl, t.sq, ew, q w H (Same.refl _) rw⟩ hs
  · rename_i t n l r i
    obtain ⟨w, ew, rw⟩ := r.atI (show L2.atI _ _ = some d from e)
    exact ix_list ve sl pn s σ H _ _ v u Q I rx ry ⟨_, _, i, w, rfl, rfl, SqL.of t, ew, q w H (Same.refl _) rw⟩ hs
theorem dE_ix {a b : Expr} {pos : Pos} {f1 f2 : EF} {μ : Bool} (ha : PE X a (tD μ f1)) (hb : PE X b (tD μ f2)) (hp : PlainIx b := by exact fun _ _ => rfl) : PE X (.Subscript a b pos) (tD μ (e2 ixD f1 f2)) := (pe_ix i_ix ha hb hp).wk fun _ _ _ q => dOp2 q
/-- slices -/
def cutD {α : Type} (xs : List α) (lo hi : Option Int) : List α := (xs.drop (HT.sIx xs.length 0 lo)).take (HT.sIx xs.length xs.length hi - HT.sIx xs.length 0 lo)
def slD : D → Option Int → Option Int → Option D
  | .tuple ds, lo, hi => some (.tuple (cutD ds lo hi))
  | .list ds, lo, hi => some (.list (cutD ds lo hi))
  | _, _, _ => none
theorem RpAll.cut {M : Addr → Prop} {H : Hp} {vs : List V} {ds : List D} (h : RpAll M H vs ds) (lo hi : Option Int) : RpAll M H (cutV vs lo hi) (cutD ds lo hi) := by
  unfold cutV cutD
  rw [h.len]
  exact (h.drop _).take _
def rSlD : V → Option Int → Option Int → Hp → VK → Prop := fun x lo hi H Q => ∃ M a d, Dom M H ∧ Rp M H x a ∧ slD a lo hi = some d ∧ ∀ v H', Same H H' → Rp M H' v d → Q v H'
theorem s_sl : SlR X rSlD := by
  intro pn s σ H x v vl vu lo hi sl Q I rx hs pl pu h
  obtain ⟨M, a, d, dm, ra, e, q⟩ := h
  cases ra <;> try (cases e; done)
  · rename_i a t n l r
    cases e
    refine sl_tupF pn s σ H _ v vl vu lo hi sl Q I rx hs pl pu ⟨_, _, rfl, t, fun p H' hp sm t' => q _ H' sm (.tup t' (fun m => ?_) (Nat.le_trans (cutV_length _ _ _) l) ((r.mono (.of sm)).cut _ _))⟩
    rcases hp with hp | hp
    · exact dm p m hp
    · rw [hp] at m; exact n m
  · rename_i a t n l r
    cases e
    exact sl_list pn s σ H _ v vl vu lo hi sl Q I rx hs pl pu ⟨_, _, rfl, SqL.of t, fun p hp => q _ _ (smN hp) (.lst upd_same (fun m => dm p m hp) (Nat.le_trans (cutV_length _ _ _) l) ((r.mono (.of (smN hp))).cut _ _))⟩
def tPo (f : Rho → Option (Option Int)) : TO := fun σ H Q => ∃ M0 H0 ρ o, Rs M0 H0 H σ ρ ∧ f ρ = some o ∧ ∀ H', Same H H' → Q o H'
def pNone : Rho → Option (Option Int) := fun _ => some none
def pSome (f : EF) : Rho → Option (Option Int) := fun ρ => (f ρ).bind fun d => match d with | .int i => some (some i) | _ => none
theorem _root_.L2.PO.wk {e : Option Expr} {t t' : TO} (h : PO X e t) (m : ∀ σ H Q, t' σ H Q → t σ H Q) : PO X e t' := ⟨fun pn s σ H Q I q => h.run pn s σ H Q I (m _ _ _ q)⟩
theorem dO_none : PO X none (tPo pNone) := po_none.wk fun σ H Q q => by
  obtain ⟨M0, H0, ρ, o, R, e, q⟩ := q
  cases e
  exact q _ (Same.refl _)
theorem dO_some {e : Expr} {f : EF} {μ : Bool} (h : PE X e (tD μ f)) : PO X (some e) (tPo (pSome f)) := (po_some h).wk fun σ H Q q => by
  obtain ⟨M0, H0, ρ, o, R, e, q⟩ := q
  obtain ⟨d, ed, e⟩ := some_bind e
  refine ⟨M0, H0, ρ, d, R, ed, fun v H1 s1 r1 => ?_⟩
  cases r1 <;> cases e
  exact ⟨_, rfl, q _ s1⟩
def eSl (f : EF) (lo hi : Rho → Option (Option Int)) : EF := fun ρ => (f ρ).bind fun d => (lo ρ).bind fun l => (hi ρ).bind fun h => slD d l h
theorem dE_sl {e : Expr} {lo hi : Option Expr} {pos p2 : Pos} {f : EF} {g h : Rho → Option (Option Int)} {μ : Bool} (he : PE X e (tD μ f)) (hl : PO X lo (tPo g)) (hh : PO X hi (tPo h)) : PE X (.Subscript e (.Slice lo hi none p2) pos) (tD μ (eSl f g h)) := (pe_slice s_sl he hl hh).wk fun σ H Q q => by
  obtain ⟨M0, H0, ρ, d, R, e, q⟩ := q
  obtain ⟨d1, e1, e⟩ := some_bind e
  obtain ⟨l, el, e⟩ := some_bind e
  obtain ⟨u, eu, e⟩ := some_bind e
  exact ⟨M0, H0, ρ, d1, R, e1, fun v H1 s1 r1 => ⟨M0, H0, ρ, l, R.mono s1, el, fun H2 s2 => ⟨M0, H0, ρ, u, R.mono (s1.trans s2), eu, fun H3 s3 => ⟨_, d1, d, (R.mono ((s1.trans s2).trans s3)).domu μ, r1.mono (.of (s2.trans s3)), e, fun v H4 s4 r4 => q v H4 (((s1.trans s2).trans s3).trans s4) r4⟩⟩⟩⟩
/-! calls -/
def rC (g : List D → Option D) : List V → Hp → VK → Prop := fun xs H Q => ∃ M ds d, Dom M H ∧ RpAll M H xs ds ∧ g ds = some d ∧ ∀ v H', Same H H' → Rp M H' v d → Q v H'
def eCall (g : List D → Option D) (f : Rho → Option (List D)) : EF := fun ρ => (f ρ).bind g
theorem dCall {g : List D → Option D} {f : Rho → Option (List D)} {μ : Bool} {σ : L2.St} {H : Hp} {Q : VK} (q : tD μ (eCall g f) σ H Q) : tCB (rC g) (tA μ f) σ H Q := by
  obtain ⟨M0, H0, ρ, d, R, e, q⟩ := q
  obtain ⟨ds, ed, e⟩ := some_bind e
  exact ⟨M0, H0, ρ, ds, R, ed, fun vs H1 s1 r1 => ⟨_, ds, d, (R.mono s1).domu μ, r1, e, fun v H2 s2 r2 => q v H2 (s1.trans s2) r2⟩⟩
def spD (n : Nat) (g : List D → Option D) : Sp := fun vs H Q _ => ∃ M ds d, Dom M H ∧ RpAll M H vs ds ∧ ds.length = n ∧ g ds = some d ∧ ∀ v H', Same H H' → Rp M H' v d → Q v H'
def gN (n : Nat) (g : List D → Option D) : List D → Option D := fun ds => if ds.length = n then g ds else none
theorem dE_cl {k n : Nat} {x : Str} {ps : List Str} {g : List D → Option D} {p pos : Pos} {e : Expr} {es : List Expr} {f : Rho → Option (List D)} {μ : Bool} (C : Cl X.prog X.w X.K X.mg X.base k x ps (spD n g)) (hr : Room k X.A) (hg : Gl X x) (ha : PA X (e :: es) (tA μ f))
    (hdb : (x == ("__debug__" : Str)) = false := by decide) (he : starEach (e :: es) X.env = (false, eval e X.env) :: starEach es X.env := by rfl) (hpl : (backTo pos (starEach es X.env)).any (·.1) = false := by rfl) :
    PE X (.Call (.Name x p) (e :: es) [] pos) (tD μ (eCall (gN n g) f)) := (pe_cl C hr hg ha hdb he hpl).wk fun σ H Q q => by
  obtain ⟨M0, H0, ρ, d, R, e, q⟩ := q
  obtain ⟨ds, ed, e⟩ := some_bind e
  refine ⟨M0, H0, ρ, ds, R, ed, fun vs H1 s1 r1 => ?_⟩
  unfold gN at e
  split at e
  · rename_i l
    rw [List.append_nil]
    exact ⟨_, ds, d, (R.mono s1).domu μ, r1, l, e, fun v H2 s2 r2 => q v H2 (s1.trans s2) r2⟩
  · cases e
end
end Dl
namespace Dl
open PySem PySem.Spec PyProof.Rows L2 Rt
/-! ### targets -/
mutual
inductive Pat
  | nm (i : Nat)
  | tp (ps : Pats)
inductive Pats
  | nil
  | cons (p : Pat) (ps : Pats)
end
def Pats.len : Pats → Nat
  | .nil => 0
  | .cons _ ps => ps.len + 1
mutual
def gP (K : PySem.W.Frag) : Pat → TG
  | .nm i => gName i
  | .tp ps => gTup K ps.len (gPs K ps)
def gPs (K : PySem.W.Frag) : Pats → TGs
  | .nil => gNil
  | .cons p ps => gCons (gP K p) (gPs K ps)
end
mutual
def bindP : Pat → D → Rho → Option Rho
  | .nm i, d, ρ => if i < ρ.length then some (ρ.set i (some (.dat d))) else none
  | .tp ps, .tuple ds, ρ => bindPs ps ds ρ
  | .tp _, _, _ => none
def bindPs : Pats → List D → Rho → Option Rho
  | .nil, [], ρ => some ρ
  | .cons p ps, d :: ds, ρ => (bindP p d ρ).bind fun ρ1 => bindPs ps ds ρ1
  | _, _, _ => none
end
mutual
def slP : Pat → List Nat
  | .nm i => [i]
  | .tp ps => slPs ps
def slPs : Pats → List Nat
  | .nil => []
  | .cons p ps => slP p ++ slPs ps
end
theorem set_get {α : Type} {xs : List α} {i j : Nat} {x y : α} (h : (xs.set i x)[j]? = some y) : (i = j ∧ y = x) ∨ (i ≠ j ∧ xs[j]? = some y) := by
  rw [List.getElem?_set] at h
  by_cases e : i = j
  · rw [if_pos e] at h
    split at h
    · cases h; exact .inl ⟨e, rfl⟩
    · cases h
  · rw [if_neg e] at h; exact .inr ⟨e, h⟩
theorem set_same {α : Type} {xs : List α} {i : Nat} {x : α} (h : i < xs.length) : (xs.set i x)[i]? = some x := by
  rw [List.getElem?_set, if_pos rfl, if_pos h]
theorem set_other {α : Type} {xs : List α} {i j : Nat} {x : α} (h : i ≠ j) : (xs.set i x)[j]? = xs[j]? := by
  rw [List.getElem?_set, if_neg h]
theorem Mu.shrink {M0 : Addr → Prop} {σ : L2.St} {ρ : Rho} {i : Nat} {w : Option V} {lv : Option LV} (h : ∀ ds, lv ≠ some (.own ds)) : ∀ a, Mu true M0 (σ.set i w) (ρ.set i lv) a → Mu true M0 σ ρ a := fun a m => by
  rcases m with m | ⟨_, j, ds, e1, e2⟩
  · exact .inl m
  · rcases set_get e1 with ⟨_, e⟩ | ⟨n, e⟩
    · exact (h ds e.symm).elim
    · rw [set_other n] at e2
      exact .inr ⟨rfl, j, ds, e, e2⟩
theorem Rs.set {M0 : Addr → Prop} {H0 H : Hp} {σ : L2.St} {ρ : Rho} {i : Nat} {v : V} {d : D} (R : Rs M0 H0 H σ ρ) (r : Rp (Mu true M0 σ ρ) H v d) : Rs M0 H0 H (σ.set i (some v)) (ρ.set i (some (.dat d))) := by
  have sh : ∀ a, Mu true M0 (σ.set i (some v)) (ρ.set i (some (.dat d))) a → Mu true M0 σ ρ a ∨ H a = none := fun a m => .inl (Mu.shrink (fun ds e => by cases e) a m)
  refine ⟨R.sm, R.dom, by rw [List.length_set, List.length_set]; exact R.len, fun j d' e => ?_, fun j ds e => ?_, fun j w e => ?_, fun j k a b p e1 e2 e3 e4 => ?_⟩
  · rcases set_get e with ⟨rfl, e9⟩ | ⟨n, e⟩
    · cases e9
      have hl : i < ρ.length := by
        have := (List.getElem?_eq_some_iff.mp (by assumption : (ρ.set i _)[i]? = _)).1
        rwa [List.length_set] at this
      exact ⟨v, set_same (by rw [← R.len]; exact hl), r.reM sh⟩
    · obtain ⟨w, x, y⟩ := R.dat j d' e
      exact ⟨w, by rw [set_other n]; exact x, y.reM sh⟩
  · rcases set_get e with ⟨rfl, e9⟩ | ⟨n, e⟩
    · cases e9
    · obtain ⟨p, vs, x, y, z, l, w⟩ := R.own j ds e
      exact ⟨p, vs, by rw [set_other n]; exact x, y, z, l, w.reM sh⟩
  · rcases set_get e with ⟨rfl, e9⟩ | ⟨n, e⟩
    · cases e9
    · rw [set_other n]; exact R.raw j w e
  · rcases set_get e1 with ⟨rfl, e⟩ | ⟨n1, f1⟩
    · cases e
    rcases set_get e2 with ⟨rfl, e⟩ | ⟨n2, f2⟩
    · cases e
    rw [set_other n1] at e3
    rw [set_other n2] at e4
    exact R.inj j k a b p f1 f2 e3 e4
theorem Rs.clear {M0 : Addr → Prop} {H0 H : Hp} {σ : L2.St} {ρ : Rho} (i : Nat) (w : Option V) (R : Rs M0 H0 H σ ρ) : Rs M0 H0 H (σ.set i w) (ρ.set i none) := by
  have sh : ∀ a, Mu true M0 (σ.set i w) (ρ.set i none) a → Mu true M0 σ ρ a ∨ H a = none := fun a m => .inl (Mu.shrink (fun ds e => by cases e) a m)
  refine ⟨R.sm, R.dom, by rw [List.length_set, List.length_set]; exact R.len, fun j d' e => ?_, fun j ds e => ?_, fun j w e => ?_, fun j k a b p e1 e2 e3 e4 => ?_⟩
  · rcases set_get e with ⟨rfl, e9⟩ | ⟨n, e⟩
    · cases e9
    · obtain ⟨w, x, y⟩ := R.dat j d' e
      exact ⟨w, by rw [set_other n]; exact x, y.reM sh⟩
  · rcases set_get e with ⟨rfl, e9⟩ | ⟨n, e⟩
    · cases e9
    · obtain ⟨p, vs, x, y, z, l, w⟩ := R.own j ds e
      exact ⟨p, vs, by rw [set_other n]; exact x, y, z, l, w.reM sh⟩
  · rcases set_get e with ⟨rfl, e9⟩ | ⟨n, e⟩
    · cases e9
    · rw [set_other n]; exact R.raw j w e
  · rcases set_get e1 with ⟨rfl, e⟩ | ⟨n1, f1⟩
    · cases e
    rcases set_get e2 with ⟨rfl, e⟩ | ⟨n2, f2⟩
    · cases e
    rw [set_other n1] at e3
    rw [set_other n2] at e4
    exact R.inj j k a b p f1 f2 e3 e4
/-- an item of a walk: data, or a pair just made of data -/
def RpI (pr : Bool) (M : Addr → Prop) (H : Hp) (v : V) (d : D) : Prop := Rp M H v d ∨ (pr = true ∧ ∃ a xs ds, v = .ref a ∧ d = .tuple ds ∧ H a = some (.tup xs) ∧ RpAll M H xs ds)
def Pat.fits (pr : Bool) : Pat → Bool
  | .nm _ => !pr
  | .tp _ => true
structure Bnd (M0 : Addr → Prop) (σ : L2.St) (ρ : Rho) (sl : List Nat) (σ' : L2.St) (ρ' : Rho) : Prop where
  oth : ∀ j, j ∉ sl → σ'[j]? = σ[j]?
  len : σ'.length = σ.length
  mu : ∀ a, Mu true M0 σ' ρ' a → Mu true M0 σ ρ a
mutual
theorem bindP.ok {K : PySem.W.Frag} {M0 : Addr → Prop} {H0 H : Hp} : ∀ {p : Pat} {σ : L2.St} {ρ ρ' : Rho} {v : V} {d : D} {Q : L2.St → Hp → Prop} {pr : Bool}, Rs M0 H0 H σ ρ → RpI pr (Mu true M0 σ ρ) H v d → p.fits pr = true → bindP p d ρ = some ρ' →
    (∀ σ', Rs M0 H0 H σ' ρ' → Bnd M0 σ ρ (slP p) σ' ρ' → Q σ' H) → gP K p v σ H Q
  | .nm i, σ, ρ, ρ', v, d, Q, pr, R, r, ft, e, q => by
    have hpr : pr = false := by cases pr <;> first | rfl | cases ft
    subst hpr
    have r : Rp (Mu true M0 σ ρ) H v d := by
      rcases r with r | ⟨z, _⟩
      · exact r
      · cases z
    unfold bindP at e
    obtain ⟨l, rfl⟩ := iteS e
    refine q _ (R.set r) ⟨fun j hj => set_other fun z => hj (by rw [z]; exact List.mem_singleton.mpr rfl), List.length_set .., Mu.shrink fun ds e => by cases e⟩
  | .tp ps, σ, ρ, ρ', v, d, Q, pr, R, r, ft, e, q => by
    rcases r with r | ⟨_, a, xs, ds, rfl, rfl, t, r⟩
    · cases r <;> try (cases e; done)
      rename_i xs ds t n l r
      have hl := bindPs.len (show bindPs ps ds ρ = some ρ' from e)
      exact ⟨_, xs, rfl, t.sq, by rw [r.len]; exact hl, bindPs.ok R r e q⟩
    · have hl := bindPs.len (show bindPs ps ds ρ = some ρ' from e)
      exact ⟨_, xs, rfl, SqT.of t, by rw [r.len]; exact hl, bindPs.ok R r e q⟩
theorem bindPs.ok {K : PySem.W.Frag} {M0 : Addr → Prop} {H0 H : Hp} : ∀ {ps : Pats} {σ : L2.St} {ρ ρ' : Rho} {vs : List V} {ds : List D} {Q : L2.St → Hp → Prop}, Rs M0 H0 H σ ρ → RpAll (Mu true M0 σ ρ) H vs ds → bindPs ps ds ρ = some ρ' →
    (∀ σ', Rs M0 H0 H σ' ρ' → Bnd M0 σ ρ (slPs ps) σ' ρ' → Q σ' H) → gPs K ps vs σ H Q
  | .nil, σ, ρ, ρ', vs, ds, Q, R, r, e, q => by
    cases r with
    | nil => cases e; exact ⟨rfl, q σ R ⟨fun _ _ => rfl, rfl, fun a m => m⟩⟩
    | cons h t => cases e
  | .cons p ps, σ, ρ, ρ', vs, ds, Q, R, r, e, q => by
    cases r with
    | nil => cases e
    | cons h t =>
      unfold bindPs at e
      obtain ⟨ρ1, e1, e⟩ := some_bind e
      refine ⟨_, _, rfl, bindP.ok (pr := false) R (.inl h) (by cases p <;> rfl) e1 fun σ1 R1 B1 => ?_⟩
      refine bindPs.ok R1 (t.reM fun a m => .inl (B1.mu a m)) e fun σ2 R2 B2 => q σ2 R2 ⟨fun j hj => ?_, B2.len.trans B1.len, fun a m => B1.mu a (B2.mu a m)⟩
      have hj : j ∉ slP p ++ slPs ps := hj
      rw [List.mem_append, not_or] at hj
      rw [B2.oth j hj.2, B1.oth j hj.1]
theorem bindPs.len : ∀ {ps : Pats} {ds : List D} {ρ ρ' : Rho}, bindPs ps ds ρ = some ρ' → ds.length = ps.len
  | .nil, [], _, _, _ => rfl
  | .nil, _ :: _, _, _, e => nomatch e
  | .cons _ _, [], _, _, e => nomatch e
  | .cons p ps, d :: ds, ρ, ρ', e => by
    unfold bindPs at e
    obtain ⟨ρ1, e1, e⟩ := some_bind e
    exact congrArg (· + 1) (bindPs.len e)
end
/-! ### walks -/
structure DW (pr : Bool) (M : Addr → Prop) (H1 : Hp) (J : It) (items : List D) : Prop where
  ex : ∃ G Y, Walk J items.length G Y ∧ (∀ H2, KpM M H1 H2 → G H2) ∧ ∀ i v Ha Hb, KpM M H1 Ha → Y i Ha v Hb → ∃ d, items[i]? = some d ∧ Same Ha Hb ∧ RpI pr M Hb v d
  sz : items.length ≤ sizeLine
def iD (μ pr : Bool) (it : Rho → Option (List D)) : TI := fun σ H R => ∃ M0 H0 ρ items, Rs M0 H0 H σ ρ ∧ it ρ = some items ∧ ∀ J H', Same H H' → (∀ M', (∀ a, M' a → Mu μ M0 σ ρ a ∨ H' a = none) → DW pr M' H' J items) → R J H'
def seqD : D → Option (List D)
  | .tuple ds => some ds
  | .list ds => some ds
  | _ => none
def itSeq (f : EF) : Rho → Option (List D) := fun ρ => (f ρ).bind seqD
theorem DW.tup {K : PySem.W.Frag} {M : Addr → Prop} {H : Hp} {a : Addr} {xs : List V} {ds : List D} (t : TupF H a xs) (n : ¬ M a) (l : xs.length ≤ sizeLine) (r : RpAll M H xs ds) : DW false M H (Itt K a) ds := by
  obtain ⟨o, e, z⟩ := t
  refine ⟨⟨fun H => SqT K H a xs, YAt xs, by rw [← r.len]; exact walk_tup, fun H2 k => TupF.sq ⟨o, k _ _ n e, z⟩, fun i v Ha Hb k y => ?_⟩, by rw [← r.len]; exact l⟩
  obtain ⟨rfl, y⟩ := y
  obtain ⟨d, e1, e2⟩ := (r.mono k).getV y
  exact ⟨d, e1, Same.refl _, .inl e2⟩
theorem DW.lst {K : PySem.W.Frag} {M : Addr → Prop} {H : Hp} {a : Addr} {xs : List V} {ds : List D} (t : H a = some (.lst xs)) (n : ¬ M a) (l : xs.length ≤ sizeLine) (r : RpAll M H xs ds) : DW false M H (Itl K a) ds := by
  refine ⟨⟨fun H => SqL K H a xs, YAt xs, by rw [← r.len]; exact walk_list, fun H2 k => SqL.of (k _ _ n t), fun i v Ha Hb k y => ?_⟩, by rw [← r.len]; exact l⟩
  obtain ⟨rfl, y⟩ := y
  obtain ⟨d, e1, e2⟩ := (r.mono k).getV y
  exact ⟨d, e1, Same.refl _, .inl e2⟩
theorem nM {M M' : Addr → Prop} {H : Hp} {a : Addr} {o : HO} (hM : ∀ a, M' a → M a ∨ H a = none) (n : ¬ M a) (e : H a = some o) : ¬ M' a := fun m => (hM _ m).elim n fun z => by rw [z] at e; cases e
theorem nMT {M M' : Addr → Prop} {H : Hp} {a : Addr} {xs : List V} (hM : ∀ a, M' a → M a ∨ H a = none) (n : ¬ M a) (e : TupF H a xs) : ¬ M' a := by
  obtain ⟨o, e, _⟩ := e
  exact nM hM n e
section
variable {X : Cx}
theorem dI_seq {tg e : Expr} {f : EF} {μ : Bool} (h : PE X e (tD μ f)) : PI X tg e (iD μ false (itSeq f)) := ⟨fun pn s σ H R I q => by
  obtain ⟨M0, H0, ρ, items, Rr, e, q⟩ := q
  obtain ⟨d, ed, e⟩ := some_bind e
  cases d <;> try (cases e; done)
  · cases e
    refine (pi_list (tg := tg) h).run pn s σ H R I ⟨M0, H0, ρ, _, Rr, ed, fun v H1 s1 r1 => ?_⟩
    cases r1 with
    | lst t n l r => exact ⟨_, rfl, ⟨_, SqL.of t⟩, q _ _ s1 fun M' hM => DW.lst t (nM hM n t) l (r.reM hM)⟩
  · cases e
    refine (pi_tup (tg := tg) h).run pn s σ H R I ⟨M0, H0, ρ, _, Rr, ed, fun v H1 s1 r1 => ?_⟩
    cases r1 with
    | tup t n l r => exact ⟨_, rfl, ⟨_, t.sq⟩, q _ _ s1 fun M' hM => DW.tup t (nMT hM n t) l (r.reM hM)⟩⟩
def rgD (lo : Int) (n : Nat) : List D := (List.range n).map fun (i : Nat) => PyData.int (lo + (i : Int))
def ran1D : List D → Option (List D)
  | [.int j] => if -(2 ^ 62) ≤ j ∧ j < 2 ^ 20 then some (rgD 0 j.toNat) else none
  | _ => none
def ran2D : List D → Option (List D)
  | [.int i, .int j] => if -(2 ^ 62) ≤ i ∧ i < 2 ^ 62 ∧ -(2 ^ 62) ≤ j ∧ j < 2 ^ 62 ∧ j - i < 2 ^ 20 then some (rgD i (j - i).toNat) else none
  | _ => none
def itG (g : List D → Option (List D)) (f : Rho → Option (List D)) : Rho → Option (List D) := fun ρ => (f ρ).bind g
theorem szR {n : Nat} (h : n ≤ 2 ^ 20) : n ≤ sizeLine := Nat.le_trans h (by decide)
theorem DW.rng {M : Addr → Prop} {H : Hp} {lo : Int} {n : Nat} (l : n ≤ sizeLine) : DW false M H (Itr lo n) (rgD lo n) := by
  have hl : (rgD lo n).length = n := by unfold rgD; rw [List.length_map, List.length_range]
  refine ⟨⟨fun _ => True, fun i H x H' => i < n ∧ YFn (fun i => V.int (lo + i)) i H x H', ?_, fun _ _ => trivial, fun i v Ha Hb k y => ?_⟩, by rw [hl]; exact l⟩
  · rw [hl]
    exact ⟨walk_range.goes, walk_range.stops, fun i H x H' hi g y => ⟨hi, walk_range.yields i H x H' hi g y⟩⟩
  · obtain ⟨hi, rfl, rfl⟩ := y
    refine ⟨.int (lo + i), ?_, Same.refl _, .inl (.int _)⟩
    unfold rgD
    rw [List.getElem?_map, List.getElem?_range hi]
    rfl
theorem dI_ran1 {tg a : Expr} {p pos : Pos} {f : Rho → Option (List D)} {μ : Bool} (hg : Gl X "range") (hm : X.mg "range" = none) (ha : PA X [a] (tA μ f)) (hs : starEach [a] X.env = [(false, eval a X.env)] := by rfl) : PI X tg (.Call (.Name "range" p) [a] [] pos) (iD μ false (itG ran1D f)) := (pi_range1 hg hm ha hs).wk fun σ H R q => by
  obtain ⟨M0, H0, ρ, items, Rr, e, q⟩ := q
  obtain ⟨ds, ed, e⟩ := some_bind e
  refine ⟨M0, H0, ρ, ds, Rr, ed, fun vs H1 s1 r1 => ?_⟩
  cases r1 with
  | nil => cases e
  | cons h t =>
    cases t with
    | nil =>
      cases h <;> try (cases e; done)
      obtain ⟨l, rfl⟩ := iteS e
      exact ⟨_, rfl, l.1, by omega, q _ _ s1 fun M' hM => DW.rng (szR (by omega))⟩
    | cons h2 t => cases h <;> cases e
theorem dI_ran2 {tg a b : Expr} {p pos : Pos} {f : Rho → Option (List D)} {μ : Bool} (hg : Gl X "range") (hm : X.mg "range" = none) (ha : PA X [a, b] (tA μ f)) (hs : starEach [a, b] X.env = [(false, eval a X.env), (false, eval b X.env)] := by rfl) (hs2 : starEach [b] X.env = [(false, eval b X.env)] := by rfl) : PI X tg (.Call (.Name "range" p) [a, b] [] pos) (iD μ false (itG ran2D f)) := (pi_range2 hg hm ha hs hs2).wk fun σ H R q => by
  obtain ⟨M0, H0, ρ, items, Rr, e, q⟩ := q
  obtain ⟨ds, ed, e⟩ := some_bind e
  refine ⟨M0, H0, ρ, ds, Rr, ed, fun vs H1 s1 r1 => ?_⟩
  cases r1 with
  | nil => cases e
  | cons h t =>
    cases t with
    | nil => cases h <;> cases e
    | cons h2 t =>
      cases t with
      | cons h3 t => cases h <;> cases h2 <;> cases e
      | nil =>
        cases h <;> cases h2 <;> try (cases e; done)
        obtain ⟨l, rfl⟩ := iteS e
        exact ⟨_, _, rfl, ⟨l.1, l.2.1, l.2.2.1, l.2.2.2.1⟩, q _ _ s1 fun M' hM => DW.rng (szR (by omega))⟩
def enGo : Nat → List D → List D
  | _, [] => []
  | i, d :: ds => .tuple [.int (i : Int), d] :: enGo (i + 1) ds
theorem enGo.len : ∀ (i : Nat) (ds : List D), (enGo i ds).length = ds.length
  | _, [] => rfl
  | i, d :: ds => congrArg (· + 1) (enGo.len (i + 1) ds)
theorem enGo.get : ∀ (i : Nat) (ds : List D) (j : Nat) (d : D), ds[j]? = some d → (enGo i ds)[j]? = some (.tuple [.int ((i + j : Nat) : Int), d])
  | _, [], _, _, e => nomatch e
  | i, d :: ds, 0, _, e => by cases e; rfl
  | i, d :: ds, j + 1, _, e => by
    have := enGo.get (i + 1) ds j _ e
    rw [show i + (j + 1) = i + 1 + j by omega]
    exact this
def enD : List D → Option (List D)
  | [.tuple ds] => some (enGo 0 ds)
  | [.list ds] => some (enGo 0 ds)
  | _ => none
theorem DW.pair {M : Addr → Prop} {H : Hp} {J : It} {n : Nat} {G : Hp → Prop} {fx fy : Nat → Option V} {items : List D} (W : Walk J n G (YPair fx fy)) (hn : n = items.length) (sz : n ≤ sizeLine) (hG : ∀ H2, KpM M H H2 → G H2)
    (hy : ∀ i x y Ha, KpM M H Ha → fx i = some x → fy i = some y → ∃ a b, items[i]? = some (.tuple [a, b]) ∧ Rp M Ha x a ∧ Rp M Ha y b) : DW true M H J items := by
  subst hn
  refine ⟨⟨G, YPair fx fy, W, hG, fun i v Ha Hb k y => ?_⟩, sz⟩
  obtain ⟨T, x, y, rfl, nT, rfl, ex, ey⟩ := y
  obtain ⟨a, b, e, ra, rb⟩ := hy i x y Ha k ex ey
  exact ⟨_, e, smN nT, .inr ⟨rfl, T, _, _, rfl, rfl, upd_same, .cons (ra.mono (.of (smN nT))) (.cons (rb.mono (.of (smN nT))) .nil)⟩⟩
theorem dI_enum {e : Expr} {p pos tpos : Pos} {elts : List Expr} {kk : Nat} {f : Rho → Option (List D)} {μ : Bool} (hg : Gl X "enumerate") (hm : X.mg "enumerate" = none) (ha : PA X [e] (tA μ f)) (hs : starEach [e] X.env = [(false, eval e X.env)] := by rfl) : PI X (.Tuple elts kk tpos) (.Call (.Name "enumerate" p) [e] [] pos) (iD μ true (itG enD f)) := ⟨fun pn s σ H R I q => by
  obtain ⟨M0, H0, ρ, items, Rr, e, q⟩ := q
  obtain ⟨ds, ed, e⟩ := some_bind e
  match ds, e with
  | [.list ds], e =>
    cases e
    refine (pi_enum hg hm ha hs).run pn s σ H R I ⟨M0, H0, ρ, _, Rr, ed, fun vs H1 s1 r1 => ?_⟩
    cases r1 with
    | cons h t =>
      cases t
      cases h with
      | lst t n l r =>
        refine ⟨_, _, rfl, SqL.of t, q _ _ s1 fun M' hM => DW.pair walk_enum (by rw [enGo.len, r.len]) l (fun H2 k => SqL.of (k _ _ (nM hM n t) t)) fun i x y Ha k ex ey => ?_⟩
        cases ex
        obtain ⟨d, e1, e2⟩ := ((r.reM hM).mono k).getV ey
        exact ⟨_, d, by rw [enGo.get 0 _ _ _ e1, Nat.zero_add], .int _, e2⟩
  | [.tuple ds], e =>
    cases e
    refine (pi_enumT hg hm ha hs).run pn s σ H R I ⟨M0, H0, ρ, _, Rr, ed, fun vs H1 s1 r1 => ?_⟩
    cases r1 with
    | cons h t =>
      cases t
      cases h with
      | tup t n l r =>
        refine ⟨_, _, rfl, t.sq, q _ _ s1 fun M' hM => DW.pair walk_enumT (by rw [enGo.len, r.len]) l (fun H2 k => ?_) fun i x y Ha k ex ey => ?_⟩
        · have n := nMT hM n t
          obtain ⟨o, e, z⟩ := t
          exact TupF.sq ⟨o, k _ _ n e, z⟩
        cases ex
        obtain ⟨d, e1, e2⟩ := ((r.reM hM).mono k).getV ey
        exact ⟨_, d, by rw [enGo.get 0 _ _ _ e1, Nat.zero_add], .int _, e2⟩⟩
def zpGo : List D → List D → List D
  | a :: as, b :: bs => .tuple [a, b] :: zpGo as bs
  | _, _ => []
theorem zpGo.len : ∀ (as bs : List D), (zpGo as bs).length = min as.length bs.length
  | [], bs => by cases bs <;> rfl
  | a :: as, [] => rfl
  | a :: as, b :: bs => by
    show (zpGo as bs).length + 1 = min (as.length + 1) (bs.length + 1)
    rw [zpGo.len as bs]
    omega
theorem zpGo.get : ∀ (as bs : List D) (j : Nat) (a b : D), as[j]? = some a → bs[j]? = some b → (zpGo as bs)[j]? = some (.tuple [a, b])
  | [], _, _, _, _, e, _ => nomatch e
  | _ :: _, [], _, _, _, _, e => nomatch e
  | a :: as, b :: bs, 0, _, _, e, f => by cases e; cases f; rfl
  | a :: as, b :: bs, j + 1, _, _, e, f => zpGo.get as bs j _ _ e f
def zpD : List D → Option (List D)
  | [.tuple a, .tuple b] => some (zpGo a b)
  | [.list a, .list b] => some (zpGo a b)
  | _ => none
theorem walk_zipX {K : PySem.W.Frag} {a b : Addr} {xs ys : List V} : Walk (RZ.ItzT K a b) (min xs.length ys.length) (fun H => SqT K H a xs ∧ SqT K H b ys) (YPair (fun i => xs[i]?) (fun i => ys[i]?)) := by
  refine ⟨fun i H hi z => ?_, fun H z => ⟨xs, ys, z.1, z.2, by omega⟩, fun i H v H' hi z y => ?_⟩
  · have h1 : i < xs.length := by omega
    have h2 : i < ys.length := by omega
    exact ⟨xs, ys, xs[i], ys[i], z.1, z.2, by simp [h1], by simp [h2]⟩
  · obtain ⟨T, x, u, h1, h2, h3, h4, h5⟩ := y
    exact ⟨T, x, u, h1, h2, h3, h4 xs z.1, h5 ys z.2⟩
theorem walk_zipY {K : PySem.W.Frag} {a b : Addr} {xs ys : List V} : Walk (L2.Itz K a b) (min xs.length ys.length) (fun H => SqL K H a xs ∧ SqL K H b ys) (YPair (fun i => xs[i]?) (fun i => ys[i]?)) := by
  refine ⟨fun i H hi z => ?_, fun H z => ⟨xs, ys, z.1, z.2, by omega⟩, fun i H v H' hi z y => ?_⟩
  · have h1 : i < xs.length := by omega
    have h2 : i < ys.length := by omega
    exact ⟨xs, ys, xs[i], ys[i], z.1, z.2, by simp [h1], by simp [h2]⟩
  · obtain ⟨T, x, u, h1, h2, h3, h4, h5⟩ := y
    exact ⟨T, x, u, h1, h2, h3, h4 xs z.1, h5 ys z.2⟩
theorem dI_zip {e e2 : Expr} {p pos tpos : Pos} {elts : List Expr} {kk : Nat} {f : Rho → Option (List D)} {μ : Bool} (hg : Gl X "zip") (hm : X.mg "zip" = none) (ha : PA X [e, e2] (tA μ f)) (hs : starEach [e, e2] X.env = (false, eval e X.env) :: starEach [e2] X.env := by rfl) (hpl : (backTo pos (starEach [e2] X.env)).any (·.1) = false := by rfl) :
    PI X (.Tuple elts kk tpos) (.Call (.Name "zip" p) [e, e2] [] pos) (iD μ true (itG zpD f)) := (RZ.pi_zipA hg hm ha hs hpl).wk fun σ H R q => by
  obtain ⟨M0, H0, ρ, items, Rr, e, q⟩ := q
  obtain ⟨ds, ed, e⟩ := some_bind e
  refine ⟨M0, H0, ρ, ds, Rr, ed, fun vs H1 s1 r1 => ?_⟩
  match ds, e, r1 with
  | [.tuple a, .tuple b], e, .cons (@Rp.tup _ _ a1 xs1 _ t n l r) (.cons (@Rp.tup _ _ a2 xs2 _ t2 n2 l2 r2) .nil) =>
    cases e
    refine ⟨_, _, _, _, rfl, .inr ⟨t.sq, t2.sq, q _ _ s1 fun M' hM => DW.pair (walk_zipX (xs := xs1) (ys := xs2)) (by rw [zpGo.len, r.len, r2.len]) (by omega) (fun H2 k => ?_) fun i x y Ha k ex ey => ?_⟩⟩
    · have n := nMT hM n t
      have n2 := nMT hM n2 t2
      obtain ⟨o, e, z⟩ := t
      obtain ⟨o2, e2, z2⟩ := t2
      exact ⟨TupF.sq ⟨o, k _ _ n e, z⟩, TupF.sq ⟨o2, k _ _ n2 e2, z2⟩⟩
    · obtain ⟨d, e1, e2⟩ := ((r.reM hM).mono k).getV ex
      obtain ⟨d', e3, e4⟩ := ((r2.reM hM).mono k).getV ey
      exact ⟨d, d', zpGo.get _ _ _ _ _ e1 e3, e2, e4⟩
  | [.list a, .list b], e, .cons (@Rp.lst _ _ a1 xs1 _ t n l r) (.cons (@Rp.lst _ _ a2 xs2 _ t2 n2 l2 r2) .nil) =>
    cases e
    refine ⟨_, _, _, _, rfl, .inl ⟨SqL.of t, SqL.of t2, q _ _ s1 fun M' hM => DW.pair (walk_zipY (xs := xs1) (ys := xs2)) (by rw [zpGo.len, r.len, r2.len]) (by omega) (fun H2 k => ⟨SqL.of (k _ _ (nM hM n t) t), SqL.of (k _ _ (nM hM n2 t2) t2)⟩) fun i x y Ha k ex ey => ?_⟩⟩
    obtain ⟨d, e1, e2⟩ := ((r.reM hM).mono k).getV ex
    obtain ⟨d', e3, e4⟩ := ((r2.reM hM).mono k).getV ey
    exact ⟨d, d', zpGo.get _ _ _ _ _ e1 e3, e2, e4⟩
end
end Dl
namespace Dl
open PySem PySem.Spec PyProof.Rows L2 Rt
/-! ### comprehensions -/
def sealL (μ : Bool) : Option LV → Option LV
  | some (.own ds) => if μ = true then none else some (.dat (.list ds))
  | x => x
def shutR (μ : Bool) (ρ : Rho) : Rho := ρ.map (sealL μ)
def wipeR : Rho → List Nat → Rho
  | ρ, [] => ρ
  | ρ, v :: vs => (wipeR ρ vs).set v none
theorem wipe_get {σ : L2.St} : ∀ {vs : List Nat} {j : Nat}, j ∉ vs → (wipe σ vs)[j]? = σ[j]?
  | [], _, _ => rfl
  | v :: vs, j, h => by
    have h : j ≠ v ∧ j ∉ vs := by simpa using h
    show ((wipe σ vs).set v none)[j]? = σ[j]?
    rw [set_other h.1.symm, wipe_get h.2]
theorem wipe_len {σ : L2.St} : ∀ {vs : List Nat}, (wipe σ vs).length = σ.length
  | [] => rfl
  | v :: vs => by
    show ((wipe σ vs).set v none).length = σ.length
    rw [List.length_set, wipe_len]
theorem wipe_in {σ : L2.St} : ∀ {vs : List Nat} {j : Nat}, j ∈ vs → (wipe σ vs)[j]? = if j < σ.length then some none else none
  | v :: vs, j, h => by
    show ((wipe σ vs).set v none)[j]? = _
    by_cases e : v = j
    · subst e
      rw [List.getElem?_set, if_pos rfl, wipe_len]
    · rw [set_other e]
      refine wipe_in ?_
      rcases List.mem_cons.mp h with h | h
      · exact (e h.symm).elim
      · exact h
theorem wipe_eq {σ σ2 : L2.St} {vs sl : List Nat} (h : ∀ j, j ∉ sl → σ2[j]? = (wipe σ vs)[j]?) (hl : σ2.length = (wipe σ vs).length) (hs : ∀ j, j ∈ sl → j ∈ vs) : wipe σ2 vs = wipe σ vs := by
  rw [wipe_len] at hl
  apply List.ext_getElem?
  intro j
  by_cases hj : j ∈ vs
  · rw [wipe_in hj, wipe_in hj, hl]
  · rw [wipe_get hj, wipe_get hj, h j fun z => hj (hs j z), wipe_get hj]
theorem seal_get {μ : Bool} {ρ : Rho} {i : Nat} {x : LV} (h : (shutR μ ρ)[i]? = some (some x)) : (ρ[i]? = some (some x) ∧ ∀ ds, x ≠ .own ds) ∨ (μ = false ∧ ∃ ds, ρ[i]? = some (some (.own ds)) ∧ x = .dat (.list ds)) := by
  unfold shutR at h
  rw [List.getElem?_map] at h
  cases e : ρ[i]? with
  | none => rw [e] at h; cases h
  | some y =>
    rw [e] at h
    have h : sealL μ y = some x := by simpa using h
    match y, h with
    | some (.own ds), h =>
      unfold sealL at h
      cases μ with
      | true => cases h
      | false => cases h; exact .inr ⟨rfl, ds, rfl, rfl⟩
    | some (.dat d), h => cases h; exact .inl ⟨rfl, fun ds z => by cases z⟩
    | some (.raw d), h => cases h; exact .inl ⟨rfl, fun ds z => by cases z⟩
    | some .pool, h => cases h; exact .inl ⟨rfl, fun ds z => by cases z⟩
    | none, h => cases h
def Mi (μ : Bool) (M0 : Addr → Prop) (σ : L2.St) (ρ : Rho) (D : Addr) (p : Addr) : Prop := Mu μ M0 σ ρ p ∨ p = D
theorem Mi.noOwn {μ : Bool} {M1 : Addr → Prop} {σ' : L2.St} {ρ : Rho} {vs : List Nat} : ∀ a, Mu true M1 σ' (wipeR (shutR μ ρ) vs) a → M1 a := fun a m => by
  rcases m with m | ⟨_, i, ds, e, _⟩
  · exact m
  · exfalso
    have : ∀ (vs : List Nat) (i : Nat), (wipeR (shutR μ ρ) vs)[i]? = some (some (.own ds)) → False := by
      intro vs
      induction vs with
      | nil =>
        intro i e
        rcases seal_get (show (shutR μ ρ)[i]? = _ from e) with ⟨_, z⟩ | ⟨_, _, _, z⟩
        · exact z ds rfl
        · cases z
      | cons v vs ih =>
        intro i e
        rcases set_get (show ((wipeR (shutR μ ρ) vs).set v none)[i]? = _ from e) with ⟨_, z⟩ | ⟨_, z⟩
        · cases z
        · exact ih i z
    exact this vs i e
theorem Rs.inner {μ : Bool} {M0 : Addr → Prop} {H0 H H2 : Hp} {σ : L2.St} {ρ : Rho} {D : Addr} {ob : HO} (R : Rs M0 H0 H σ ρ) (hD : H D = none) (s : Same H H2) (eD : H2 D = some ob) (vs : List Nat) : Rs (Mi μ M0 σ ρ D) H2 H2 (wipe σ vs) (wipeR (shutR μ ρ) vs) := by
  have base : Rs (Mi μ M0 σ ρ D) H2 H2 σ (shutR μ ρ) := by
    have no := Mi.noOwn (μ := μ) (M1 := Mi μ M0 σ ρ D) (σ' := σ) (ρ := ρ) (vs := [])
    refine ⟨Same.refl _, fun p m => ?_, ?_, fun i d e => ?_, fun i ds e => ?_, fun i v e => ?_, fun i j a b p e1 e2 e3 e4 => ?_⟩
    · rcases m with m | rfl
      · exact ((R.domu μ).mono s) p m
      · rw [eD]; intro z; cases z
    · unfold shutR; rw [List.length_map]; exact R.len
    · rcases seal_get e with ⟨e8, _⟩ | ⟨rfl, ds, e8, z9⟩
      · cases μ with
        | true =>
          obtain ⟨v, a, b⟩ := R.dat i d e8
          refine ⟨v, a, (b.reM fun a m => ?_).mono (.of s)⟩
          rcases no a m with m | rfl
          · exact .inl m
          · exact .inr hD
        | false =>
          obtain ⟨v, a, b⟩ := R.dat i d e8
          refine ⟨v, a, (b.reM fun a m => ?_).mono (.of s)⟩
          rcases no a m with m | rfl
          · exact Mu.up a m
          · exact .inr hD
      · cases z9
        obtain ⟨p, vs, a, b, c, l, r⟩ := R.own i ds e8
        refine ⟨.ref p, a, (Rp.lst b (fun m => ?_) l (r.reM fun a m => ?_)).mono (.of s)⟩
        · rcases no p m with m | rfl
          · rcases m with m | ⟨z, _⟩
            · exact R.dom p m c
            · cases z
          · rw [hD] at b; cases b
        · rcases no a m with m | rfl
          · exact Mu.up a m
          · exact .inr hD
    · rcases seal_get e with ⟨e, z⟩ | ⟨_, _, _, z⟩
      · exact (z ds rfl).elim
      · cases z
    · rcases seal_get e with ⟨e, z⟩ | ⟨_, _, _, z⟩
      · exact R.raw i v e
      · cases z
    · rcases seal_get e1 with ⟨e, z⟩ | ⟨_, _, _, z⟩
      · exact (z _ rfl).elim
      · cases z
  induction vs with
  | nil => exact base
  | cons v vs ih => exact ih.clear v none
def lcGo (p : Pat) (c : Rho → Option Bool) (f : EF) (ρ : Rho) : List D → Option (List D)
  | [] => some []
  | x :: xs => (bindP p x ρ).bind fun ρ1 => (c ρ1).bind fun b => if b = true then (f ρ1).bind fun d => (lcGo p c f ρ xs).map fun r => d :: r else lcGo p c f ρ xs
def eLc (μ : Bool) (vs : List Nat) (it : Rho → Option (List D)) (p : Pat) (c : Rho → Option Bool) (f : EF) : EF := fun ρ => (it ρ).bind fun items => (lcGo p c f (wipeR (shutR μ ρ) vs) items).map .list
theorem some_map {α β : Type} {o : Option α} {f : α → β} {b : β} (h : o.map f = some b) : ∃ a, o = some a ∧ f a = b := by
  cases o with
  | none => cases h
  | some a => cases h; exact ⟨a, rfl, rfl⟩
theorem drop_at {α : Type} {xs : List α} {i : Nat} {x : α} (h : xs[i]? = some x) : xs.drop i = x :: xs.drop (i + 1) := by
  obtain ⟨hl, e⟩ := List.getElem?_eq_some_iff.mp h
  rw [List.drop_eq_getElem_cons hl, e]
theorem lcCore {K : PySem.W.Frag} {μ μi pr : Bool} {M0 : Addr → Prop} {H0 H1 : Hp} {σ : L2.St} {ρ : Rho} {J : It} {items res : List D} {p : Pat} {c : Rho → Option Bool} {f : EF} {vs : List Nat} {D : Addr} {Qd : Hp → Prop}
    (R : Rs M0 H0 H1 σ ρ) (dw : ∀ M', (∀ a, M' a → Mu μ M0 σ ρ a ∨ H1 a = none) → DW pr M' H1 J items) (hD : H1 D = none) (hp : p.fits pr = true) (hs : ∀ j, j ∈ slP p → j ∈ vs) (e : lcGo p c f (wipeR (shutR μ ρ) vs) items = some res)
    (q : ∀ H acc, Same H1 H → H D = some (.lst acc) → acc.length ≤ sizeLine → RpAll (Mi μ M0 σ ρ D) H acc res → Qd H) :
    ∃ W : Nat → Nat → Hp → Prop, (∃ m, W 0 m (upd H1 D (.lst []))) ∧ ∀ i m H, W i m H →
      (J.stop i H ∧ Qd H) ∨ (J.go i H ∧ ∃ Nx : Hp → Prop, (∀ H', Nx H' → ∃ m', m' < m ∧ W (i + 1) m' H') ∧ ∀ x H', J.yld i H x H' → gP K p x (wipe σ vs) H' fun σ2 H2 => wipe σ2 vs = wipe σ vs ∧ tT c σ2 H2 fun b H3 =>
        if b = true then tD μi f σ2 H3 fun y H4 => ∃ acc, H4 D = some (.lst acc) ∧ acc.length < sizeLine ∧ Nx (upd H4 D (.lst (acc ++ [y]))) else Nx H3) := by
  have dw := dw (Mi μ M0 σ ρ D) fun a m => m.elim .inl fun z => .inr (by rw [z]; exact hD)
  have sz := dw.sz
  obtain ⟨G, Y, W, hG, hY⟩ := dw.ex
  refine lc_it W (fun i H => Same H1 H ∧ ∃ acc done rest, H D = some (.lst acc) ∧ acc.length ≤ i ∧ RpAll (Mi μ M0 σ ρ D) H acc done ∧ lcGo p c f (wipeR (shutR μ ρ) vs) (items.drop i) = some rest ∧ done ++ rest = res) ⟨smN hD, [], [], res, upd_same, Nat.le_refl _, .nil, e, rfl⟩ (fun i H hi h => hG H (.of h.1)) (fun i v H H' hi h y => ?_) (fun H h => ?_)
  · obtain ⟨sm, acc, done, rest, eD, la, ra, er, et⟩ := h
    obtain ⟨d, ed, s2, rv⟩ := hY i v H H' (.of sm) y
    rw [drop_at ed] at er
    unfold lcGo at er
    obtain ⟨ρ1, e1, er⟩ := some_bind er
    obtain ⟨b, eb, er⟩ := some_bind er
    have Rin := R.inner (μ := μ) hD (sm.trans s2) (s2 _ _ eD) vs
    refine bindP.ok (pr := pr) Rin ?_ hp e1 fun σ2 R2 B2 => ⟨wipe_eq B2.oth B2.len hs, _, _, ρ1, b, R2, eb, fun H3 s3 => ?_⟩
    · rcases rv with rv | ⟨zp, a, xs, ds, z1, z2, z3, z4⟩
      · exact .inl (rv.reM fun a m => .inl (Mi.noOwn a m))
      · exact .inr ⟨zp, a, xs, ds, z1, z2, z3, z4.reM fun a m => .inl (Mi.noOwn a m)⟩
    have s13 := (sm.trans s2).trans s3
    cases b with
    | true =>
      obtain ⟨dv, edv, er⟩ := some_bind (show (f ρ1).bind _ = some rest from er)
      obtain ⟨r2, er2, rfl⟩ := some_map er
      refine ⟨_, _, ρ1, dv, R2.mono s3, edv, fun y H4 s4 r4 => ?_⟩
      have s14 := s13.trans s4
      have eD4 := (s2.trans (s3.trans s4)) _ _ eD
      have kp : KpM (Mi μ M0 σ ρ D) H4 (upd H4 D (.lst (acc ++ [y]))) := fun q o n e => by
        rw [upd_ne (fun z => n (.inr z))]
        exact e
      have r4 : Rp (Mi μ M0 σ ρ D) H4 y dv := r4.reM fun a m => .inl (.inl m)
      refine ⟨acc, eD4, by omega, fun q o e => ?_, acc ++ [y], done ++ [dv], r2, upd_same, by rw [List.length_append]; simp; omega, ?_, er2, by rw [← et, List.append_assoc]; rfl⟩
      · rw [upd_ne (ne_of_none e hD)]
        exact s14 _ _ e
      · exact ((ra.mono (.of (s2.trans (s3.trans s4)))).mono kp).app (.cons (r4.mono kp) .nil)
    | false =>
      exact ⟨s13, acc, done, rest, (s2.trans s3) _ _ eD, by omega, ra.mono (.of (s2.trans s3)), er, et⟩
  · obtain ⟨sm, acc, done, rest, eD, la, ra, er, et⟩ := h
    rw [List.drop_length] at er
    cases er
    rw [List.append_nil] at et
    subst et
    exact q H acc sm eD (by omega) ra
section
variable {X : Cx} {K : PySem.W.Frag}
def oYes : Rho → Option Bool := fun _ => some true
theorem _root_.L2.PTs.wk {es : List Expr} {t t' : TT} (h : PTs X es t) (m : ∀ σ H Q, t' σ H Q → t σ H Q) : PTs X es t' := ⟨fun pn s σ H Q I q => h.run pn s σ H Q I (m _ _ _ q)⟩
theorem dTs_nil : PTs X [] (tT oYes) := pts_nil.wk fun σ H Q q => by
  obtain ⟨M0, H0, ρ, b, R, e, q⟩ := q
  cases e
  exact q _ (Same.refl _)
/-- a new list, whose address is nobody's -/
def tN (f : EF) : TE := fun σ H Q => ∃ M0 H0 ρ ds, Rs M0 H0 H σ ρ ∧ f ρ = some (.list ds) ∧ ∀ p vs H', H p = none → Same H H' → H' p = some (.lst vs) → vs.length ≤ sizeLine → RpAll (Mi true M0 σ ρ p) H' vs ds → Q (.ref p) H'
theorem dLc {it : Rho → Option (List D)} {p : Pat} {c : Rho → Option Bool} {f : EF} {vs : List Nat} {μ μi pr : Bool} (hp : p.fits pr = true) (hs : ∀ j, j ∈ slP p → j ∈ vs) {σ : L2.St} {H : Hp} {Q : VK} (q : tD μ (eLc μ vs it p c f) σ H Q) : tLc (iD μ pr it) (gP K p) (tT c) (tD μi f) vs σ H Q := by
  obtain ⟨M0, H0, ρ, d, R, e, q⟩ := q
  obtain ⟨items, ei, e⟩ := some_bind e
  obtain ⟨res, er, rfl⟩ := some_map e
  refine ⟨M0, H0, ρ, items, R, ei, fun J H1 s1 dw D hD => lcCore (R.mono s1) dw hD hp hs er fun H2 acc s2 eD la ra => q _ _ (s1.trans s2) (.lst eD (((R.mono s1).domu μ).not hD) la (ra.reM fun a m => .inl (.inl m)))⟩
theorem nLc {it : Rho → Option (List D)} {p : Pat} {c : Rho → Option Bool} {f : EF} {vs : List Nat} {μi pr : Bool} (hp : p.fits pr = true) (hs : ∀ j, j ∈ slP p → j ∈ vs) {σ : L2.St} {H : Hp} {Q : VK} (q : tN (eLc true vs it p c f) σ H Q) : tLc (iD true pr it) (gP K p) (tT c) (tD μi f) vs σ H Q := by
  obtain ⟨M0, H0, ρ, d, R, e, q⟩ := q
  obtain ⟨items, ei, e⟩ := some_bind e
  obtain ⟨res, er, e⟩ := some_map e
  cases e
  refine ⟨M0, H0, ρ, items, R, ei, fun J H1 s1 dw D hD => lcCore (R.mono s1) dw hD hp hs er fun H2 acc s2 eD la ra => q D acc H2 ?_ (s1.trans s2) eD la ra⟩
  cases z : H D with
  | none => rfl
  | some o => rw [s1 _ _ z] at hD; cases hD
/-! ### statements -/
def sAsg (p : Pat) (f : EF) : Rho → Option Out := fun ρ => (f ρ).bind fun d => (bindP p d ρ).map .nx
theorem dS_asg {st : Stmt} {p : Pat} {f : EF} (h : PS X st (tAsg (tD true f) (gP K p))) : PS X st (tS (sAsg p f)) := h.wk fun Dn σ H q => by
  obtain ⟨M0, H0, ρ, o, R, e, q⟩ := q
  obtain ⟨d, ed, e⟩ := some_bind e
  obtain ⟨ρ1, e1, rfl⟩ := some_map e
  exact ⟨M0, H0, ρ, d, R, ed, fun v H1 s1 r1 => bindP.ok (pr := false) (R.mono s1) (.inl r1) (by cases p <;> rfl) e1 fun σ1 R1 B1 => q σ1 H1 R1 ⟨.of s1, fun p m => .inl (B1.mu p m)⟩⟩
def sRet (f : EF) : Rho → Option Out := fun ρ => (f ρ).map .rt
theorem dS_ret {st : Stmt} {f : EF} {μ : Bool} (h : PS X st (tRet (tD μ f))) : PS X st (tS (sRet f)) := h.wk fun Dn σ H q => by
  obtain ⟨M0, H0, ρ, o, R, e, q⟩ := q
  obtain ⟨d, ed, rfl⟩ := some_map e
  exact ⟨M0, H0, ρ, d, R, ed, fun v H1 s1 r1 => q v H1 (R.sm.trans s1) (r1.reM Mu.lo)⟩
def sRetN : Rho → Option Out := fun _ => some (.rt .none)
theorem dS_retN {pos : Pos} : PS X (.Return none pos) (tS sRetN) := ps_retN.wk fun Dn σ H q => by
  obtain ⟨M0, H0, ρ, o, R, e, q⟩ := q
  cases e
  exact q _ H R.sm .non
def sDrop (f : EF) : Rho → Option Out := fun ρ => (f ρ).map fun _ => .nx ρ
theorem dS_expr {st : Stmt} {f : EF} {μ : Bool} (h : PS X st (tDrop (tD μ f))) : PS X st (tS (sDrop f)) := h.wk fun Dn σ H q => by
  obtain ⟨M0, H0, ρ, o, R, e, q⟩ := q
  obtain ⟨d, ed, rfl⟩ := some_map e
  exact ⟨M0, H0, ρ, d, R, ed, fun v H1 s1 r1 => q σ H1 (R.mono s1) ⟨.of s1, fun p m => .inl m⟩⟩
def sIf (c : Rho → Option Bool) (f g : Rho → Option Out) : Rho → Option Out := fun ρ => (c ρ).bind fun b => if b = true then f ρ else g ρ
/-- from a later heap, where what stood stands -/
def Post (M0 : Addr → Prop) (H0 : Hp) (σ : L2.St) (ρ : Rho) (H : Hp) (Dn : Ends) : Out → Prop
  | .nx ρ' => ∀ σ' H', Rs M0 H0 H' σ' ρ' → Stp M0 σ ρ H σ' ρ' H' → Dn.nx σ' H'
  | .rt d => ∀ v H', Same H0 H' → Rp M0 H' v d → Dn.rt v H'
  | .bk ρ' => ∀ σ' H', Rs M0 H0 H' σ' ρ' → Stp M0 σ ρ H σ' ρ' H' → Dn.bk σ' H'
  | .ct ρ' => ∀ σ' H', Rs M0 H0 H' σ' ρ' → Stp M0 σ ρ H σ' ρ' H' → Dn.ct σ' H'
theorem tS_iff {f : Rho → Option Out} {Dn : Ends} {σ : L2.St} {H : Hp} : tS f Dn σ H ↔ ∃ M0 H0 ρ o, Rs M0 H0 H σ ρ ∧ f ρ = some o ∧ Post M0 H0 σ ρ H Dn o := by
  constructor
  · rintro ⟨M0, H0, ρ, o, R, e, q⟩
    exact ⟨M0, H0, ρ, o, R, e, by cases o <;> exact q⟩
  · rintro ⟨M0, H0, ρ, o, R, e, q⟩
    exact ⟨M0, H0, ρ, o, R, e, by cases o <;> exact q⟩
theorem Post.from {M0 : Addr → Prop} {H0 : Hp} {σ σ1 : L2.St} {ρ ρ1 : Rho} {H H1 : Hp} {Dn : Ends} {o : Out} (st : Stp M0 σ ρ H σ1 ρ1 H1) (p : Post M0 H0 σ ρ H Dn o) : Post M0 H0 σ1 ρ1 H1 Dn o := by
  cases o with
  | nx ρ' => exact fun σ' H' R s => p σ' H' R (st.trans s)
  | rt d => exact p
  | bk ρ' => exact fun σ' H' R s => p σ' H' R (st.trans s)
  | ct ρ' => exact fun σ' H' R s => p σ' H' R (st.trans s)
theorem Stp.of {M0 : Addr → Prop} {σ : L2.St} {ρ : Rho} {H H' : Hp} (s : Same H H') : Stp M0 σ ρ H σ ρ H' := ⟨.of s, fun p m => .inl m⟩
theorem dS_if {c : Expr} {a b : List Stmt} {pos : Pos} {t : Rho → Option Bool} {f g : Rho → Option Out} (hc : PT X c (tT t)) (ha : PSs X a (tS f)) (hb : PSs X b (tS g)) : PS X (.If c a b pos) (tS (sIf t f g)) := (ps_if hc ha hb).wk fun Dn σ H q => by
  obtain ⟨M0, H0, ρ, o, R, e, q⟩ := tS_iff.mp q
  obtain ⟨c, ec, e⟩ := some_bind e
  refine ⟨M0, H0, ρ, c, R, ec, fun H1 s1 => ?_⟩
  cases c with
  | true => exact tS_iff.mpr ⟨M0, H0, ρ, o, R.mono s1, e, q.from (.of s1)⟩
  | false => exact tS_iff.mpr ⟨M0, H0, ρ, o, R.mono s1, e, q.from (.of s1)⟩
def sSeq (f g : Rho → Option Out) : Rho → Option Out := fun ρ => (f ρ).bind fun o => match o with
  | .nx ρ' => g ρ'
  | o => some o
theorem dSs_cons {st : Stmt} {rest : List Stmt} {f g : Rho → Option Out} (h : PS X st (tS f)) (hs : PSs X rest (tS g)) : PSs X (st :: rest) (tS (sSeq f g)) := (pss_cons h hs).wk fun Dn σ H q => by
  obtain ⟨M0, H0, ρ, o, R, e, q⟩ := tS_iff.mp q
  obtain ⟨o1, e1, e⟩ := some_bind e
  refine tS_iff.mpr ⟨M0, H0, ρ, o1, R, e1, ?_⟩
  cases o1 with
  | nx ρ' => exact fun σ' H' R' s => tS_iff.mpr ⟨M0, H0, ρ', o, R', e, q.from s⟩
  | rt d => cases e; exact q
  | bk ρ' => cases e; exact q
  | ct ρ' => cases e; exact q
theorem dSs_one {st : Stmt} {f : Rho → Option Out} (h : PS X st (tS f)) : PSs X [st] (tS f) := pss_one h
def sNil : Rho → Option Out := fun ρ => some (.nx ρ)
theorem dSs_nil : PSs X [] (tS sNil) := pss_nil.wk fun Dn σ H q => by
  obtain ⟨M0, H0, ρ, o, R, e, q⟩ := tS_iff.mp q
  cases e
  exact q σ H R .refl
theorem dS_pass {pos : Pos} : PS X (.Pass pos) (tS sNil) := ps_pass.wk fun Dn σ H q => by
  obtain ⟨M0, H0, ρ, o, R, e, q⟩ := tS_iff.mp q
  cases e
  exact q σ H R .refl
def forGo (p : Pat) (body : Rho → Option Out) : List D → Rho → Option Out
  | [], ρ => some (.nx ρ)
  | x :: xs, ρ => (bindP p x ρ).bind fun ρ1 => (body ρ1).bind fun o => match o with
    | .nx ρ2 => forGo p body xs ρ2
    | .ct ρ2 => forGo p body xs ρ2
    | .bk ρ2 => some (.nx ρ2)
    | .rt d => some (.rt d)
def sFor (it : Rho → Option (List D)) (p : Pat) (body : Rho → Option Out) : Rho → Option Out := fun ρ => (it ρ).bind fun items => forGo p body items ρ
theorem dFor {it : Rho → Option (List D)} {p : Pat} {body : Rho → Option Out} {pr : Bool} (hp : p.fits pr = true) {Dn : Ends} {σ : L2.St} {H : Hp} (q : tS (sFor it p body) Dn σ H) : tFor (iD true pr it) (gP K p) (tS body) Dn σ H := by
  obtain ⟨M0, H0, ρ, o, R, e, q⟩ := tS_iff.mp q
  obtain ⟨items, ei, e⟩ := some_bind e
  refine ⟨M0, H0, ρ, items, R, ei, fun J H1 s1 dw => ⟨fun i m σ' H' => i ≤ items.length ∧ m = items.length - i ∧ ∃ ρ', Rs M0 H0 H' σ' ρ' ∧ Stp M0 σ ρ H1 σ' ρ' H' ∧ forGo p body (items.drop i) ρ' = some o, ⟨_, Nat.zero_le _, rfl, ρ, R.mono s1, .refl, e⟩, ?_⟩⟩
  rintro i m σ' H' ⟨hi, rfl, ρ', R', st, e⟩
  have dw := dw (fun a => Mu true M0 σ' ρ' a ∨ Mu true M0 σ ρ a) fun a m => m.elim (st.ow a) .inl
  obtain ⟨G, Y, W, hG, hY⟩ := dw.ex
  have kp : KpM (fun a => Mu true M0 σ' ρ' a ∨ Mu true M0 σ ρ a) H1 H' := fun p o n e => st.kp p o (fun m => n (.inr m)) e
  by_cases hlt : i < items.length
  · refine .inr ⟨W.goes i H' hlt (hG _ kp), fun σ3 H3 => ∃ ρ3, Rs M0 H0 H3 σ3 ρ3 ∧ Stp M0 σ ρ H1 σ3 ρ3 H3 ∧ forGo p body (items.drop (i + 1)) ρ3 = some o, fun σ3 H3 h => ⟨items.length - (i + 1), by omega, hlt, rfl, h⟩, fun x Hb y => ?_⟩
    obtain ⟨d, ed, s2, rv⟩ := hY i x H' Hb kp (W.yields i H' x Hb hlt (hG _ kp) y)
    rw [drop_at ed] at e
    unfold forGo at e
    obtain ⟨ρ1, e1, e⟩ := some_bind e
    obtain ⟨o1, eo, e⟩ := some_bind e
    refine bindP.ok (pr := pr) (R'.mono s2) ?_ hp e1 fun σ2 R2 B2 => tS_iff.mpr ⟨M0, H0, ρ1, o1, R2, eo, ?_⟩
    · rcases rv with rv | ⟨zp, a, xs, ds, z1, z2, z3, z4⟩
      · exact .inl (rv.reM fun a m => .inl (.inl m))
      · exact .inr ⟨zp, a, xs, ds, z1, z2, z3, z4.reM fun a m => .inl (.inl m)⟩
    have st2 : Stp M0 σ' ρ' H' σ2 ρ1 Hb := ⟨.of s2, fun p m => .inl (B2.mu p m)⟩
    cases o1 with
    | nx ρ2 => exact fun σ3 H3 R3 s3 => ⟨ρ2, R3, (st.trans st2).trans s3, e⟩
    | ct ρ2 => exact fun σ3 H3 R3 s3 => ⟨ρ2, R3, (st.trans st2).trans s3, e⟩
    | bk ρ2 => cases e; exact fun σ3 H3 R3 s3 => q σ3 H3 R3 ((Stp.of s1).trans ((st.trans st2).trans s3))
    | rt d => cases e; exact q
  · have : i = items.length := by omega
    subst this
    rw [List.drop_length] at e
    cases e
    exact .inl ⟨W.stops H' (hG _ kp), q σ' H' R' ((Stp.of s1).trans st)⟩
theorem dS_for {st : Stmt} {it : Rho → Option (List D)} {p : Pat} {body : Rho → Option Out} {pr : Bool} (h : PS X st (tFor (iD true pr it) (gP K p) (tS body))) (hp : p.fits pr = true := by rfl) : PS X st (tS (sFor it p body)) := h.wk fun Dn σ H q => dFor hp q
/-! lists of one's own -/
theorem Rs.ownSet {M0 : Addr → Prop} {H0 H : Hp} {σ : L2.St} {ρ : Rho} {i : Nat} {ds ds' : List D} {p : Addr} {vs vs' : List V} (R : Rs M0 H0 H σ ρ) (e : ρ[i]? = some (some (.own ds))) (es : σ[i]? = some (some (.ref p))) (eH : H p = some (.lst vs)) (l : vs'.length ≤ sizeLine) (r : RpAll (Mu true M0 σ ρ) H vs' ds') :
    Rs M0 H0 (upd H p (.lst vs')) σ (ρ.set i (some (.own ds'))) ∧ Stp M0 σ ρ H σ (ρ.set i (some (.own ds'))) (upd H p (.lst vs')) := by
  have hi : i < ρ.length := (List.getElem?_eq_some_iff.mp e).1
  have mp : Mu true M0 σ ρ p := .inr ⟨rfl, i, ds, e, es⟩
  have mu : ∀ a, Mu true M0 σ (ρ.set i (some (.own ds'))) a → Mu true M0 σ ρ a := fun a m => by
    rcases m with m | ⟨_, j, es', e1, e2⟩
    · exact .inl m
    · rcases set_get e1 with ⟨rfl, _⟩ | ⟨n, e1⟩
      · exact .inr ⟨rfl, i, ds, e, e2⟩
      · exact .inr ⟨rfl, j, es', e1, e2⟩
  have kp : KpM (Mu true M0 σ ρ) H (upd H p (.lst vs')) := fun a o n e => by
    rw [upd_ne (fun z => n (by rw [z]; exact mp))]
    exact e
  have h0 : H0 p = none := by
    obtain ⟨q, us, a, b, c, _⟩ := R.own i ds e
    rw [es] at a
    cases a
    exact c
  refine ⟨⟨fun a o e => ?_, R.dom, by rw [List.length_set]; exact R.len, fun j d e1 => ?_, fun j es' e1 => ?_, fun j v e1 => ?_, fun j k a b q e1 e2 e3 e4 => ?_⟩, kp, fun a m => .inl (mu a m)⟩
  · rw [upd_ne (fun z => by rw [z, h0] at e; cases e)]
    exact R.sm a o e
  · rcases set_get e1 with ⟨_, z⟩ | ⟨n, e1⟩
    · cases z
    · obtain ⟨v, a, b⟩ := R.dat j d e1
      exact ⟨v, a, (b.mono kp).reM fun a m => .inl (mu a m)⟩
  · rcases set_get e1 with ⟨rfl, z⟩ | ⟨n, e1⟩
    · cases z
      exact ⟨p, vs', es, upd_same, h0, l, (r.mono kp).reM fun a m => .inl (mu a m)⟩
    · obtain ⟨q, us, a, b, c, l', r'⟩ := R.own j es' e1
      refine ⟨q, us, a, ?_, c, l', (r'.mono kp).reM fun a m => .inl (mu a m)⟩
      rw [upd_ne (fun z => n (R.inj i j ds es' p e e1 es (by rw [← z]; exact a)))]
      exact b
  · rcases set_get e1 with ⟨_, z⟩ | ⟨n, e1⟩
    · cases z
    · exact R.raw j v e1
  · have f1 : ∃ a', ρ[j]? = some (some (.own a')) := by
      rcases set_get e1 with ⟨rfl, _⟩ | ⟨_, z⟩
      · exact ⟨ds, e⟩
      · exact ⟨a, z⟩
    have f2 : ∃ a', ρ[k]? = some (some (.own a')) := by
      rcases set_get e2 with ⟨rfl, _⟩ | ⟨_, z⟩
      · exact ⟨ds, e⟩
      · exact ⟨b, z⟩
    obtain ⟨a', f1⟩ := f1
    obtain ⟨b', f2⟩ := f2
    exact R.inj j k a' b' q f1 f2 e3 e4
theorem Rs.ownNew {M0 : Addr → Prop} {H0 H H' : Hp} {σ : L2.St} {ρ : Rho} {i : Nat} {ds : List D} {p : Addr} {vs : List V} (R : Rs M0 H0 H σ ρ) (hi : i < ρ.length) (np : H p = none) (s : Same H H') (eH : H' p = some (.lst vs)) (l : vs.length ≤ sizeLine) (r : RpAll (Mi true M0 σ ρ p) H' vs ds) :
    Rs M0 H0 H' (σ.set i (some (.ref p))) (ρ.set i (some (.own ds))) ∧ Stp M0 σ ρ H (σ.set i (some (.ref p))) (ρ.set i (some (.own ds))) H' := by
  have mu : ∀ a, Mu true M0 (σ.set i (some (.ref p))) (ρ.set i (some (.own ds))) a → Mi true M0 σ ρ p a := fun a m => by
    rcases m with m | ⟨_, j, es', e1, e2⟩
    · exact .inl (.inl m)
    · rcases set_get e1 with ⟨rfl, _⟩ | ⟨n, e1⟩
      · rw [set_same (by rw [← R.len]; exact hi)] at e2
        cases e2
        exact .inr rfl
      · rw [set_other n] at e2
        exact .inl (.inr ⟨rfl, j, es', e1, e2⟩)
  have h0 : H0 p = none := by
    cases z : H0 p with
    | none => rfl
    | some o => rw [R.sm _ _ z] at np; cases np
  have re : ∀ a, Mu true M0 (σ.set i (some (.ref p))) (ρ.set i (some (.own ds))) a → Mu true M0 σ ρ a ∨ H a = none := fun a m => by
    rcases mu a m with m | rfl
    · exact .inl m
    · exact .inr np
  refine ⟨⟨R.sm.trans s, R.dom, by rw [List.length_set, List.length_set]; exact R.len, fun j d e1 => ?_, fun j es' e1 => ?_, fun j v e1 => ?_, fun j k a b q e1 e2 e3 e4 => ?_⟩, .of s, re⟩
  · rcases set_get e1 with ⟨_, z⟩ | ⟨n, e1⟩
    · cases z
    · obtain ⟨v, a, b⟩ := R.dat j d e1
      exact ⟨v, by rw [set_other n]; exact a, (b.reM re).mono (.of s)⟩
  · rcases set_get e1 with ⟨rfl, z⟩ | ⟨n, e1⟩
    · cases z
      exact ⟨p, vs, set_same (by rw [← R.len]; exact hi), eH, h0, l, r.reM fun a m => .inl (mu a m)⟩
    · obtain ⟨q, us, a, b, c, l', r'⟩ := R.own j es' e1
      exact ⟨q, us, by rw [set_other n]; exact a, s _ _ b, c, l', (r'.reM re).mono (.of s)⟩
  · rcases set_get e1 with ⟨_, z⟩ | ⟨n, e1⟩
    · cases z
    · rw [set_other n]; exact R.raw j v e1
  · have own : ∀ (m : Nat) (es : List D), ρ[m]? = some (some (.own es)) → σ[m]? = some (some (.ref q)) → q ≠ p := fun m es f1 f2 z => by
      obtain ⟨q', us, a, b, _⟩ := R.own m es f1
      rw [f2] at a
      cases a
      rw [z, np] at b
      cases b
    rcases set_get e1 with ⟨rfl, _⟩ | ⟨n1, f1⟩
    · rcases set_get e2 with ⟨rfl, _⟩ | ⟨n2, f2⟩
      · rfl
      · rw [set_same (by rw [← R.len]; exact hi)] at e3
        cases e3
        rw [set_other n2] at e4
        exact (own k b f2 e4 rfl).elim
    · rw [set_other n1] at e3
      rcases set_get e2 with ⟨rfl, _⟩ | ⟨n2, f2⟩
      · rw [set_same (by rw [← R.len]; exact hi)] at e4
        cases e4
        exact (own j a f1 e3 rfl).elim
      · rw [set_other n2] at e4
        exact R.inj j k a b q f1 f2 e3 e4
def sOwn (i : Nat) (f : EF) : Rho → Option Out := fun ρ => (f ρ).bind fun d => match d with
  | .list ds => if i < ρ.length then some (.nx (ρ.set i (some (.own ds)))) else none
  | _ => none
theorem dS_own {st : Stmt} {i : Nat} {f : EF} (h : PS X st (tAsg (tN f) (gName i))) : PS X st (tS (sOwn i f)) := h.wk fun Dn σ H q => by
  obtain ⟨M0, H0, ρ, o, R, e, q⟩ := tS_iff.mp q
  obtain ⟨d, ed, e⟩ := some_bind e
  cases d <;> try (cases e; done)
  obtain ⟨hi, rfl⟩ := iteS e
  refine ⟨M0, H0, ρ, _, R, ed, fun p vs H1 np s1 eH l r => ?_⟩
  obtain ⟨R1, s1⟩ := R.ownNew hi np s1 eH l r
  exact q _ _ R1 s1
theorem oE_lst {es : List Expr} {pos : Pos} {g : Rho → Option (List D)} (h : PA X es (tA true g)) : PE X (.List es pos) (tN (eLst g)) := (pe_lst h).wk fun σ H Q q => by
  obtain ⟨M0, H0, ρ, d, R, e, q⟩ := q
  obtain ⟨ds, ed, e⟩ := some_bind e
  obtain ⟨l, z⟩ := iteS e
  cases z
  refine ⟨M0, H0, ρ, _, R, ed, fun vs H1 s1 r1 => ⟨by rw [r1.len]; exact l, fun p np => q p vs _ ?_ (s1.trans (smN np)) upd_same (by rw [r1.len]; exact l) ((r1.reM fun a m => ?_).mono (.of (smN np)))⟩⟩
  · cases z : H p with
    | none => rfl
    | some o => rw [s1 _ _ z] at np; cases np
  · rcases m with m | rfl
    · exact .inl m
    · exact .inr np
def sApp (i : Nat) (f : Rho → Option (List D)) : Rho → Option Out := fun ρ => match ρ[i]? with
  | some (some (.own ds)) => (f ρ).bind fun es => match es with
    | [d] => if ds.length < sizeLine then some (.nx (ρ.set i (some (.own (ds ++ [d]))))) else none
    | _ => none
  | _ => none
theorem dS_app {st : Stmt} {i : Nat} {f : Rho → Option (List D)} (h : PS X st (tDrop (tBM K "list" rAppend (tVar i) (tA true f)))) : PS X st (tS (sApp i f)) := h.wk fun Dn σ H q => by
  obtain ⟨M0, H0, ρ, o, R, e, q⟩ := tS_iff.mp q
  unfold sApp at e
  split at e
  · rename_i ds z
    obtain ⟨es, ed, e⟩ := some_bind e
    obtain ⟨p, vs, a, b, c, l, r⟩ := R.own i ds z
    refine ⟨.ref p, a, .inl ⟨rfl, _, SqL.of b⟩, M0, H0, ρ, es, R, ed, fun us H1 s1 r1 => ?_⟩
    match es, r1, e with
    | [d], .cons r1 .nil, e =>
      obtain ⟨l2, rfl⟩ := iteS e
      have hl : vs.length < sizeLine := by rw [r.len]; exact l2
      refine ⟨p, vs, _, rfl, rfl, s1 _ _ b, hl, ?_⟩
      obtain ⟨R1, S1⟩ := (R.mono s1).ownSet z a (s1 _ _ b) (vs' := vs ++ [_]) (by rw [List.length_append]; exact hl) ((r.mono (.of s1)).app (.cons r1 .nil))
      exact q _ _ R1 ((Stp.of s1).trans S1)
  · cases e
end
/-! ### a def -/
def startR (n : Nat) (ds : List D) : Rho := ds.map (fun d => some (.dat d)) ++ List.replicate (n - ds.length) none
theorem RpAll.start {M : Addr → Prop} {H : Hp} {N : List Str} {vs : List V} {ds : List D} (dm : Dom M H) (r : RpAll M H vs ds) : Rs M H H (L2.start N vs) (startR N.length ds) := by
  have get : ∀ (i : Nat) (x : LV), (startR N.length ds)[i]? = some (some x) → ∃ d, ds[i]? = some d ∧ x = .dat d := fun i x e => by
    unfold startR at e
    rw [List.getElem?_append] at e
    split at e
    · rw [List.getElem?_map] at e
      cases z : ds[i]? with
      | none => rw [z] at e; cases e
      | some d => rw [z] at e; cases e; exact ⟨d, rfl, rfl⟩
    · rw [List.getElem?_replicate] at e
      split at e <;> cases e
  have mu : ∀ a, Mu true M (L2.start N vs) (startR N.length ds) a → M a ∨ H a = none := fun a m => by
    rcases m with m | ⟨_, j, es, e, _⟩
    · exact .inl m
    · obtain ⟨d, _, z⟩ := get j _ e
      cases z
  refine ⟨Same.refl _, dm, ?_, fun i d e => ?_, fun i es e => ?_, fun i v e => ?_, fun i j a b p e => ?_⟩
  · unfold startR L2.start
    simp [r.len]
  · obtain ⟨d', ed, z⟩ := get i _ e
    cases z
    obtain ⟨v, a, b⟩ := r.get ed
    refine ⟨v, ?_, b.reM mu⟩
    unfold L2.start
    rw [List.getElem?_append, if_pos (by rw [List.length_map]; exact (List.getElem?_eq_some_iff.mp a).1), List.getElem?_map, a]
    rfl
  · obtain ⟨d', _, z⟩ := get i _ e
    cases z
  · obtain ⟨d', _, z⟩ := get i _ e
    cases z
  · obtain ⟨d', _, z⟩ := get i _ e
    cases z
def Tells (o : Out) (d : D) : Prop := match o with
  | .rt e => e = d
  | .nx _ => d = .none
  | _ => False
theorem okFn {P : Program} {w : World} {K : PySem.W.Frag} {mg : Str → Option Value} {base : Heap} {x qual : Str} {st : Stmt} {f : Addr} {fd : FuncData} {N ps : List Str} {k n : Nat} {g : List D → Option D} (F : Fun K x qual st f fd) (S : FnScope N ps (defScope st)) (hn : n = ps.length)
    (walk : ∀ (cdv : Value) (A : Around) (outer : List Env) (s : Shared) (H : Hp) (E : XK), Room k (A.deeper (envOfC qual (defScope st) s.heap.objs.size f cdv)) →
      ∃ fS, PSs (cxOf CX0 P w K mg base N qual (defScope st) f cdv A outer s H E).nox (defBody st) (tS fS) ∧ ∀ ds d, ds.length = n → g ds = some d → ∃ o, fS (startR N.length ds) = some o ∧ Tells o d) :
    FnOk P w K mg base CX0 (k + 1) f fd ps (spD n g) := by
  refine F.ok S (fun vs H Q E h => ?_) (fun cdv A outer s H vs Q E hr h => ?_)
  · obtain ⟨M, ds, d, dm, r, l, _⟩ := h
    rw [r.len, l, hn]
  · obtain ⟨M, ds, d, dm, r, l, e, q⟩ := h
    obtain ⟨fS, hS, hw⟩ := walk cdv A outer s H E hr
    obtain ⟨o, eo, t⟩ := hw ds d l e
    refine ⟨_, hS, tS_iff.mpr ⟨M, H, _, o, r.start dm, eo, ?_⟩⟩
    cases o with
    | nx ρ' => cases t; exact fun σ' H' R s => q _ _ R.sm .non
    | rt d' => cases t; exact fun v H' s r => q v H' s r
    | bk ρ' => exact t.elim
    | ct ρ' => exact t.elim
end Dl
namespace Rt
open PySem PySem.Spec PyProof.Rows L2
theorem Fu.loc {g : Gd} {b : Nat} {H H' : Hp} (i : Fu g b H) (h1 : H' g.d = H g.d) (h2 : H' g.c = H g.c) (h3 : H' g.r = H g.r) : Fu g b H' := by
  obtain ⟨t, a, l⟩ := i
  obtain ⟨cs, hc, ec⟩ := a.hc
  obtain ⟨rs, hr, er⟩ := a.hr
  exact ⟨t, ⟨by rw [h1]; exact a.hd, ⟨cs, by rw [h2]; exact hc, ec⟩, ⟨rs, by rw [h3]; exact hr, er⟩, a.dc, a.dr, a.cr, a.n0, a.n63, a.t0⟩, l⟩
end Rt
namespace Dl
open PySem PySem.Spec PyProof.Rows L2 Rt
/-! ### what is drawn from: a thing with a store of draws -/
abbrev Pl := Rt.Gd
def _root_.Rt.Gd.h (g : Rt.Gd) : V := .ref g.d
def _root_.Rt.Gd.own (g : Rt.Gd) (p : Addr) : Prop := p = g.d ∨ p = g.c ∨ p = g.r
def _root_.Rt.Gd.inv (g : Rt.Gd) (b : Nat) (H : Hp) : Prop := Fu g b H
theorem _root_.Rt.Gd.alive (g : Rt.Gd) {b : Nat} {H : Hp} {p : Addr} (i : g.inv b H) (o : g.own p) : H p ≠ none := fun e => by
  have f := Fu.off i e
  rcases o with o | o | o
  · exact f.d o
  · exact f.c o
  · exact f.r o
theorem _root_.Rt.Gd.loc (g : Rt.Gd) {b : Nat} {H H' : Hp} (i : g.inv b H) (h : ∀ p, g.own p → H' p = H p) : g.inv b H' := Fu.loc i (h _ (.inl rfl)) (h _ (.inr (.inl rfl))) (h _ (.inr (.inr rfl)))
theorem Pl.same {g : Pl} {b : Nat} {H H' : Hp} (i : g.inv b H) (s : Same H H') : g.inv b H' := g.loc i fun p o => by
  cases e : H p with
  | none => exact (g.alive i o e).elim
  | some u => exact s p u e
/-- readings that draw -/
structure WP (α : Type) where
  w : Rho → Nat → (α → Nat → Prop) → Prop
  m : ∀ {ρ b P Q}, (∀ a b', P a b' → Q a b') → w ρ b P → w ρ b Q
structure Rn (g : Pl) (M0 : Addr → Prop) (H0 H : Hp) (σ : L2.St) (ρ : Rho) (b : Nat) : Prop where
  kp : KpM g.own H0 H
  dom0 : Dom M0 H0
  dom : Dom M0 H
  pl : ∀ p, g.own p → M0 p
  iv : g.inv b H
  len : ρ.length = σ.length
  dat : ∀ (i : Nat) (d : D), ρ[i]? = some (some (.dat d)) → ∃ v, σ[i]? = some (some v) ∧ Rp (Mu true M0 σ ρ) H v d
  own : ∀ (i : Nat) (ds : List D), ρ[i]? = some (some (.own ds)) → ∃ p vs, σ[i]? = some (some (.ref p)) ∧ H p = some (.lst vs) ∧ H0 p = none ∧ vs.length ≤ sizeLine ∧ RpAll (Mu true M0 σ ρ) H vs ds
  raw : ∀ (i : Nat) (v : V), ρ[i]? = some (some (.raw v)) → σ[i]? = some (some v)
  pool : ∀ (i : Nat), ρ[i]? = some (some .pool) → σ[i]? = some (some g.h)
  inj : ∀ (i j : Nat) (a b : List D) (p : Addr), ρ[i]? = some (some (.own a)) → ρ[j]? = some (some (.own b)) → σ[i]? = some (some (.ref p)) → σ[j]? = some (some (.ref p)) → i = j
theorem Rn.up {g : Pl} {M0 : Addr → Prop} {H0 H : Hp} {σ : L2.St} {ρ : Rho} {b : Nat} (R : Rn g M0 H0 H σ ρ b) {H' : Hp} {b' : Nat} (k : KpM g.own H H') (iv : g.inv b' H') : Rn g M0 H0 H' σ ρ b' where
  kp := fun p o n e => k p o n (R.kp p o n e)
  dom0 := R.dom0
  dom := fun p m e => by
    by_cases o : g.own p
    · exact g.alive iv o e
    · cases z : H p with
      | none => exact R.dom p m z
      | some u => rw [k p u o z] at e; cases e
  pl := R.pl
  iv := iv
  len := R.len
  dat := fun i d e => by
    obtain ⟨v, a, c⟩ := R.dat i d e
    exact ⟨v, a, c.mono fun p o n e => k p o (fun z => n (.inl (R.pl p z))) e⟩
  own := fun i ds e => by
    obtain ⟨p, vs, a, c, z, l, r⟩ := R.own i ds e
    exact ⟨p, vs, a, k p _ (fun o => R.dom0 p (R.pl p o) z) c, z, l, r.mono fun p o n e => k p o (fun z => n (.inl (R.pl p z))) e⟩
  raw := R.raw
  pool := R.pool
  inj := R.inj
theorem Rn.mono {g : Pl} {M0 : Addr → Prop} {H0 H : Hp} {σ : L2.St} {ρ : Rho} {b : Nat} (R : Rn g M0 H0 H σ ρ b) {H' : Hp} (s : Same H H') : Rn g M0 H0 H' σ ρ b := R.up (.of s) (Pl.same R.iv s)
theorem Rn.domu {g : Pl} {M0 : Addr → Prop} {H0 H : Hp} {σ : L2.St} {ρ : Rho} {b : Nat} (R : Rn g M0 H0 H σ ρ b) (μ : Bool) : Dom (Mu μ M0 σ ρ) H := fun p m e => by
  rcases m with m | ⟨_, i, ds, e1, e2⟩
  · exact R.dom p m e
  · obtain ⟨q, vs, a, b, _⟩ := R.own i ds e1
    rw [e2] at a
    cases a
    rw [b] at e
    cases e
theorem KpM.tr {M : Addr → Prop} {H H1 H2 : Hp} (a : KpM M H H1) (b : KpM M H1 H2) : KpM M H H2 := fun p o n e => b p o n (a p o n e)
/-- the slots as a reading without draws sees them -/
theorem shut_nown {μ : Bool} {ρ : Rho} {i : Nat} {ds : List D} (e : (shutR μ ρ)[i]? = some (some (.own ds))) : False := by
  rcases seal_get e with ⟨_, z⟩ | ⟨_, _, _, z⟩
  · exact z ds rfl
  · cases z
theorem Rn.rs {g : Pl} {M0 : Addr → Prop} {H0 H : Hp} {σ : L2.St} {ρ : Rho} {b : Nat} (R : Rn g M0 H0 H σ ρ b) (μ : Bool) : Rs (Mu μ M0 σ ρ) H H σ (shutR μ ρ) := by
  have no : ∀ a, Mu true (Mu μ M0 σ ρ) σ (shutR μ ρ) a → Mu μ M0 σ ρ a := fun a m => by
    rcases m with m | ⟨_, i, ds, e, _⟩
    · exact m
    · exact (shut_nown e).elim
  refine ⟨Same.refl _, R.domu μ, by unfold shutR; rw [List.length_map]; exact R.len, fun i d e => ?_, fun i ds e => (shut_nown e).elim, fun i v e => ?_, fun i j a b p e => (shut_nown e).elim⟩
  · rcases seal_get e with ⟨e8, _⟩ | ⟨rfl, ds, e8, z9⟩
    · obtain ⟨v, a, c⟩ := R.dat i d e8
      exact ⟨v, a, c.reM fun a m => Mu.up a (no a m)⟩
    · cases z9
      obtain ⟨p, vs, a, c, z, l, r⟩ := R.own i ds e8
      refine ⟨.ref p, a, .lst c (fun m => ?_) l (r.reM fun a m => Mu.up a (no a m))⟩
      rcases no p m with m | ⟨z, _⟩
      · exact R.dom0 p m z
      · cases z
  · rcases seal_get e with ⟨e8, _⟩ | ⟨_, _, _, z9⟩
    · exact R.raw i v e8
    · cases z9
def tn (f : WP D) : TE := fun σ H Q => ∃ g M0 H0 ρ b, Rn g M0 H0 H σ ρ b ∧ f.w ρ b fun d b' => ∀ v H', KpM g.own H H' → g.inv b' H' → Rp (Mu true M0 σ ρ) H' v d → Q v H'
def tnA (f : WP (List D)) : TA := fun σ H Q => ∃ g M0 H0 ρ b, Rn g M0 H0 H σ ρ b ∧ f.w ρ b fun ds b' => ∀ vs H', KpM g.own H H' → g.inv b' H' → RpAll (Mu true M0 σ ρ) H' vs ds → Q vs H'
def tnT (f : WP Bool) : TT := fun σ H Q => ∃ g M0 H0 ρ b, Rn g M0 H0 H σ ρ b ∧ f.w ρ b fun k b' => ∀ H', KpM g.own H H' → g.inv b' H' → Q k H'
/-! readings -/
def wP {α : Type} (f : Rho → Option α) : WP α := ⟨fun ρ b Q => ∃ d, f (shutR true ρ) = some d ∧ Q d b, fun h ⟨d, e, q⟩ => ⟨d, e, h _ _ q⟩⟩
def wB {α β : Type} (f : WP α) (g : α → Option β) : WP β := ⟨fun ρ b Q => f.w ρ b fun a b' => ∃ d, g a = some d ∧ Q d b', fun h z => f.m (fun a b' ⟨d, e, q⟩ => ⟨d, e, h _ _ q⟩) z⟩
def w2 {α β γ : Type} (f : WP α) (g : WP β) (h : α → β → Option γ) : WP γ := ⟨fun ρ b Q => f.w ρ b fun a b1 => g.w ρ b1 fun c b2 => ∃ d, h a c = some d ∧ Q d b2, fun k z => f.m (fun a b' y => g.m (fun c b2 ⟨d, e, q⟩ => ⟨d, e, k _ _ q⟩) y) z⟩
section
variable {X : Cx} {K : PySem.W.Frag}
theorem nE_pure {e : Expr} {f : EF} (h : PE X e (tD true f)) : PE X e (tn (wP f)) := h.wk fun σ H Q q => by
  obtain ⟨g, M0, H0, ρ, b, R, d, e, q⟩ := q
  exact ⟨_, H, _, d, R.rs true, e, fun v H1 s1 r1 => q v H1 (.of s1) (Pl.same R.iv s1) (r1.reM fun a m => .inl (.inl m))⟩
def wL (f : EF) : WP D := ⟨fun ρ b Q => ∃ d, f (shutR false ρ) = some d ∧ nl d = true ∧ Q d b, fun h ⟨d, e, n, q⟩ => ⟨d, e, n, h _ _ q⟩⟩
theorem nE_loose {e : Expr} {f : EF} {μ : Bool} (h : PE X e (tD μ f)) : PE X e (tn (wL f)) := h.wk fun σ H Q q => by
  obtain ⟨g, M0, H0, ρ, b, R, d, e, n, q⟩ := q
  refine ⟨_, H, _, d, R.rs false, e, fun v H1 s1 r1 => q v H1 (.of s1) (Pl.same R.iv s1) ((r1.reM (M' := M0) fun a m => .inl (.inl (.inl m))).nl n fun a m => ?_)⟩
  rcases m with m | ⟨_, i, ds, e1, e2⟩
  · exact .inl m
  · obtain ⟨p, vs, x, y, _⟩ := (R.mono s1).own i ds e1
    rw [e2] at x
    cases x
    exact .inr ⟨_, y⟩
theorem nT_pure {e : Expr} {f : Rho → Option Bool} (h : PT X e (tT f)) : PT X e (tnT (wP f)) := h.wk fun σ H Q q => by
  obtain ⟨g, M0, H0, ρ, b, R, d, e, q⟩ := q
  exact ⟨_, H, _, d, R.rs true, e, fun H1 s1 => q H1 (.of s1) (Pl.same R.iv s1)⟩
def wTL (f : Rho → Option Bool) : WP Bool := ⟨fun ρ b Q => ∃ d, f (shutR false ρ) = some d ∧ Q d b, fun h ⟨d, e, q⟩ => ⟨d, e, h _ _ q⟩⟩
theorem nT_loose {e : Expr} {f : Rho → Option Bool} (h : PT X e (tT f)) : PT X e (tnT (wTL f)) := h.wk fun σ H Q q => by
  obtain ⟨g, M0, H0, ρ, b, R, d, e, q⟩ := q
  exact ⟨_, H, _, d, R.rs false, e, fun H1 s1 => q H1 (.of s1) (Pl.same R.iv s1)⟩
theorem nOp2 {g : D → D → Option D} {f1 f2 : WP D} {σ : L2.St} {H : Hp} {Q : VK} (q : tn (w2 f1 f2 g) σ H Q) : tOp (rD g) (tn f1) (tn f2) σ H Q := by
  obtain ⟨p, M0, H0, ρ, b, R, q⟩ := q
  refine ⟨p, M0, H0, ρ, b, R, f1.m (fun a b1 q x H1 k1 i1 r1 => ?_) q⟩
  refine ⟨p, M0, H0, ρ, b1, R.up k1 i1, f2.m (fun c b2 ⟨d, e, q⟩ y H2 k2 i2 r2 => ?_) q⟩
  exact ⟨_, a, c, d, ((R.up k1 i1).up k2 i2).domu true, r1.mono fun p o n e => k2 p o (fun z => n (.inl (R.pl p z))) e, r2, e, fun v H3 s3 r3 => q v H3 ((k1.tr k2).tr (.of s3)) (Pl.same i2 s3) r3⟩
theorem nE_op {a b : Expr} {op : Operator} {pos : Pos} {g : D → D → Option D} {f1 f2 : WP D} (o : OpR X (binaryOp op) (rD g)) (ha : PE X a (tn f1)) (hb : PE X b (tn f2)) : PE X (.BinOp a op b pos) (tn (w2 f1 f2 g)) := (pe_op o ha hb).wk fun _ _ _ q => nOp2 q
theorem nE_cmp {a b : Expr} {op : CmpOp} {pos : Pos} {g : D → D → Option D} {f1 f2 : WP D} (o : OpR X (compareOp op) (rD g)) (ha : PE X a (tn f1)) (hb : PE X b (tn f2)) (hm : behindInMarks op b = false) : PE X (.Compare a [op] [b] pos) (tn (w2 f1 f2 g)) := (pe_cmpR o ha hb hm).wk fun _ _ _ q => nOp2 q
theorem nE_ix {a b : Expr} {pos : Pos} {f1 f2 : WP D} (ha : PE X a (tn f1)) (hb : PE X b (tn f2)) (hp : PlainIx b := by exact fun _ _ => rfl) : PE X (.Subscript a b pos) (tn (w2 f1 f2 ixD)) := (pe_ix i_ix ha hb hp).wk fun _ _ _ q => nOp2 q
theorem nTest {f : WP D} {σ : L2.St} {H : Hp} {Q : Bool → Hp → Prop} (q : tnT (wB f bB) σ H Q) : tn f σ H (fun x H1 => ∃ c, x = V.bl c ∧ Q c H1) := by
  obtain ⟨p, M0, H0, ρ, b, R, q⟩ := q
  exact ⟨p, M0, H0, ρ, b, R, f.m (fun d b1 ⟨c, e, q⟩ v H1 k1 i1 r1 => ⟨c, r1.ofB e, q H1 k1 i1⟩) q⟩
theorem nT_cmp {a b : Expr} {op : CmpOp} {pos : Pos} {g : D → D → Option D} {f1 f2 : WP D} (o : OpR X (compareOp op) (rD g)) (ha : PE X a (tn f1)) (hb : PE X b (tn f2)) (hm : behindInMarks op b = false) : PT X (.Compare a [op] [b] pos) (tnT (wB (w2 f1 f2 g) bB)) := (pt_cmpR o ha hb hm).wk fun σ H Q q => nOp2 (nTest q)
theorem nT_val {e : Expr} {f : WP D} (h : PE X e (tn f)) (ht : ∀ (whole : Sem Value), PySem.isTrue e X.env whole = (do
          let v ← whole
          standAt e.pos
          holding [v] (truthy v)) := by intro _; rfl) : PT X e (tnT (wB f bB)) := (pt_val h ht).wk fun σ H Q q => nTest q
def wNot (f : WP Bool) : WP Bool := wB f fun b => some (!b)
theorem nT_not {a : Expr} {pos : Pos} {f : WP Bool} (h : PT X a (tnT f)) : PT X (.UnaryOp .Not a pos) (tnT (wNot f)) := (pt_not h).wk fun σ H Q q => by
  obtain ⟨p, M0, H0, ρ, b, R, q⟩ := q
  exact ⟨p, M0, H0, ρ, b, R, f.m (fun c b1 ⟨d, e, q⟩ H1 k1 i1 => by cases e; exact q H1 k1 i1) q⟩
def wAnd (f g : WP Bool) : WP Bool := ⟨fun ρ b Q => f.w ρ b fun c b1 => if c = true then g.w ρ b1 Q else Q false b1, fun h z => f.m (fun c b1 y => by
  cases c with
  | true => exact g.m h y
  | false => exact h _ _ y) z⟩
def wOr (f g : WP Bool) : WP Bool := ⟨fun ρ b Q => f.w ρ b fun c b1 => if c = true then Q true b1 else g.w ρ b1 Q, fun h z => f.m (fun c b1 y => by
  cases c with
  | true => exact h _ _ y
  | false => exact g.m h y) z⟩
theorem nW_and1 {a : Expr} {pos : Pos} {f : WP Bool} (h : PT X a (tnT f)) : PW X (.BoolOp .And [a] pos) (tnT f) := pw_and1 h
theorem nW_or1 {a : Expr} {pos : Pos} {f : WP Bool} (h : PT X a (tnT f)) : PW X (.BoolOp .Or [a] pos) (tnT f) := pw_or1 h
theorem nW_and {a b : Expr} {rest : List Expr} {pos : Pos} {f g : WP Bool} (ha : PT X a (tnT f)) (hb : PW X (.BoolOp .And (b :: rest) pos) (tnT g)) : PW X (.BoolOp .And (a :: b :: rest) pos) (tnT (wAnd f g)) := (pw_and ha hb).wk fun σ H Q q => by
  obtain ⟨p, M0, H0, ρ, b, R, q⟩ := q
  refine ⟨p, M0, H0, ρ, b, R, f.m (fun c b1 q H1 k1 i1 => ?_) q⟩
  cases c with
  | true => exact ⟨p, M0, H0, ρ, b1, R.up k1 i1, g.m (fun d b2 q H2 k2 i2 => q H2 (k1.tr k2) i2) q⟩
  | false => exact q H1 k1 i1
theorem nW_or {a b : Expr} {rest : List Expr} {pos : Pos} {f g : WP Bool} (ha : PT X a (tnT f)) (hb : PW X (.BoolOp .Or (b :: rest) pos) (tnT g)) : PW X (.BoolOp .Or (a :: b :: rest) pos) (tnT (wOr f g)) := (pw_or ha hb).wk fun σ H Q q => by
  obtain ⟨p, M0, H0, ρ, b, R, q⟩ := q
  refine ⟨p, M0, H0, ρ, b, R, f.m (fun c b1 q H1 k1 i1 => ?_) q⟩
  cases c with
  | true => exact q H1 k1 i1
  | false => exact ⟨p, M0, H0, ρ, b1, R.up k1 i1, g.m (fun d b2 q H2 k2 i2 => q H2 (k1.tr k2) i2) q⟩
def wIf {α : Type} (c : WP Bool) (f g : WP α) : WP α := ⟨fun ρ b Q => c.w ρ b fun k b1 => if k = true then f.w ρ b1 Q else g.w ρ b1 Q, fun h z => c.m (fun k b1 y => by
  cases k with
  | true => exact f.m h y
  | false => exact g.m h y) z⟩
theorem nE_if {a b c : Expr} {pos : Pos} {t : WP Bool} {f g : WP D} (hc : PT X c (tnT t)) (ha : PE X a (tn f)) (hb : PE X b (tn g)) : PE X (c.IfExp a b pos) (tn (wIf t f g)) := (pe_ifExp hc ha hb).wk fun σ H Q q => by
  obtain ⟨p, M0, H0, ρ, b, R, q⟩ := q
  refine ⟨p, M0, H0, ρ, b, R, t.m (fun k b1 q H1 k1 i1 => ?_) q⟩
  cases k with
  | true => exact ⟨p, M0, H0, ρ, b1, R.up k1 i1, f.m (fun d b2 q v H2 k2 i2 r2 => q v H2 (k1.tr k2) i2 r2) q⟩
  | false => exact ⟨p, M0, H0, ρ, b1, R.up k1 i1, g.m (fun d b2 q v H2 k2 i2 r2 => q v H2 (k1.tr k2) i2 r2) q⟩
def wNil : WP (List D) := ⟨fun _ b Q => Q [] b, fun h z => h _ _ z⟩
def wCons (f : WP D) (g : WP (List D)) : WP (List D) := w2 f g fun d ds => some (d :: ds)
theorem nA_nil : PA X [] (tnA wNil) := PA.weak pa_nil fun σ H Q q => by
  obtain ⟨p, M0, H0, ρ, b, R, q⟩ := q
  exact ⟨Q, q [] H .refl R.iv .nil, fun _ _ z => z⟩
theorem nA_cons {e : Expr} {es : List Expr} {f : WP D} {g : WP (List D)} (h : PE X e (tn f)) (hs : PA X es (tnA g)) (he : starEach (e :: es) X.env = (false, eval e X.env) :: starEach es X.env := by rfl) : PA X (e :: es) (tnA (wCons f g)) := PA.weak (pa_cons h hs he) fun σ H Q q => by
  obtain ⟨p, M0, H0, ρ, b, R, q⟩ := q
  refine ⟨Q, ⟨p, M0, H0, ρ, b, R, f.m (fun a b1 q x H1 k1 i1 r1 => ?_) q⟩, fun _ _ z => z⟩
  refine ⟨p, M0, H0, ρ, b1, R.up k1 i1, g.m (fun c b2 ⟨d, e, q⟩ y H2 k2 i2 r2 => ?_) q⟩
  cases e
  exact q _ H2 (k1.tr k2) i2 (.cons (r1.mono fun p o n e => k2 p o (fun z => n (.inl (R.pl p z))) e) r2)
def tupO (ds : List D) : Option D := if ds.length ≤ sizeLine then some (.tuple ds) else none
def lstO (ds : List D) : Option D := if ds.length ≤ sizeLine then some (.list ds) else none
theorem nE_tup {es : List Expr} {x1 : Nat} {pos : Pos} {g : WP (List D)} (h : PA X es (tnA g)) : PE X (.Tuple es x1 pos) (tn (wB g tupO)) := (pe_tupF h).wk fun σ H Q q => by
  obtain ⟨p, M0, H0, ρ, b, R, q⟩ := q
  refine ⟨p, M0, H0, ρ, b, R, g.m (fun ds b1 ⟨d, e, q⟩ vs H1 k1 i1 r1 => ?_) q⟩
  obtain ⟨l, rfl⟩ := iteS e
  exact ⟨by rw [r1.len]; exact l, fun a H2 np s2 t => q _ H2 (k1.tr (.of s2)) (Pl.same i1 s2) (.tup t (((R.up k1 i1).domu true).not np) (by rw [r1.len]; exact l) (r1.mono (.of s2)))⟩
theorem nE_lst {es : List Expr} {pos : Pos} {g : WP (List D)} (h : PA X es (tnA g)) : PE X (.List es pos) (tn (wB g lstO)) := (pe_lst h).wk fun σ H Q q => by
  obtain ⟨p, M0, H0, ρ, b, R, q⟩ := q
  refine ⟨p, M0, H0, ρ, b, R, g.m (fun ds b1 ⟨d, e, q⟩ vs H1 k1 i1 r1 => ?_) q⟩
  obtain ⟨l, rfl⟩ := iteS e
  exact ⟨by rw [r1.len]; exact l, fun a np => q _ _ (k1.tr (.of (smN np))) (Pl.same i1 (smN np)) (.lst upd_same (((R.up k1 i1).domu true).not np) (by rw [r1.len]; exact l) (r1.mono (.of (smN np))))⟩
theorem nCall {g : List D → Option D} {f : WP (List D)} {σ : L2.St} {H : Hp} {Q : VK} (q : tn (wB f g) σ H Q) : tCB (rC g) (tnA f) σ H Q := by
  obtain ⟨p, M0, H0, ρ, b, R, q⟩ := q
  refine ⟨p, M0, H0, ρ, b, R, f.m (fun ds b1 ⟨d, e, q⟩ vs H1 k1 i1 r1 => ?_) q⟩
  exact ⟨_, ds, d, (R.up k1 i1).domu true, r1, e, fun v H2 s2 r2 => q v H2 (k1.tr (.of s2)) (Pl.same i1 s2) r2⟩
theorem nE_cl {k n : Nat} {x : Str} {ps : List Str} {g : List D → Option D} {p pos : Pos} {e : Expr} {es : List Expr} {f : WP (List D)} (C : Cl X.prog X.w X.K X.mg X.base k x ps (spD n g)) (hr : Room k X.A) (hg : Gl X x) (ha : PA X (e :: es) (tnA f))
    (hdb : (x == ("__debug__" : Str)) = false := by decide) (he : starEach (e :: es) X.env = (false, eval e X.env) :: starEach es X.env := by rfl) (hpl : (backTo pos (starEach es X.env)).any (·.1) = false := by rfl) :
    PE X (.Call (.Name x p) (e :: es) [] pos) (tn (wB f (gN n g))) := (pe_cl C hr hg ha hdb he hpl).wk fun σ H Q q => by
  obtain ⟨p, M0, H0, ρ, b, R, q⟩ := q
  refine ⟨p, M0, H0, ρ, b, R, f.m (fun ds b1 ⟨d, e, q⟩ vs H1 k1 i1 r1 => ?_) q⟩
  unfold gN at e
  split at e
  · rename_i l
    rw [List.append_nil]
    exact ⟨_, ds, d, (R.up k1 i1).domu true, r1, l, e, fun v H2 s2 r2 => q v H2 (k1.tr (.of s2)) (Pl.same i1 s2) r2⟩
  · cases e
/-! a def that draws: its first argument is what is drawn from -/
structure GF where
  f : List D → Nat → (D → Nat → Prop) → Prop
  m : ∀ {ds b P Q}, (∀ d b', P d b' → Q d b') → f ds b P → f ds b Q
def spN (n : Nat) (F : GF) : Sp := fun vs H Q _ => ∃ (g : Pl) (M : Addr → Prop) (ws : List V) (ds : List D) (b : Nat), vs = g.h :: ws ∧ (∀ p, g.own p → M p) ∧ Dom M H ∧ g.inv b H ∧ RpAll M H ws ds ∧ ds.length = n ∧
  F.f ds b fun d b' => ∀ v H', KpM g.own H H' → g.inv b' H' → Rp M H' v d → Q v H'
def wCall (i n : Nat) (F : GF) (f : WP (List D)) : WP D := ⟨fun ρ b Q => ρ[i]? = some (some .pool) ∧ f.w ρ b fun ds b1 => ds.length = n ∧ F.f ds b1 Q, fun h z => ⟨z.1, f.m (fun ds b1 y => ⟨y.1, F.m h y.2⟩) z.2⟩⟩
theorem nE_draw {k n : Nat} {x : Str} {ps : List Str} {F : GF} {p pos : Pos} {e : Expr} {es : List Expr} {f : WP (List D)} {i : Nat} (C : Cl X.prog X.w X.K X.mg X.base k x ps (spN n F)) (hr : Room k X.A) (hg : Gl X x) (he0 : PE X e (tVar i)) (ha : PA X es (tnA f))
    (hdb : (x == ("__debug__" : Str)) = false := by decide) (he : starEach (e :: es) X.env = (false, eval e X.env) :: starEach es X.env := by rfl) (hpl : (backTo pos (starEach es X.env)).any (·.1) = false := by rfl) :
    PE X (.Call (.Name x p) (e :: es) [] pos) (tn (wCall i n F f)) := (pe_cl C hr hg (pa_cons he0 ha he) hdb he hpl).wk fun σ H Q q => by
  obtain ⟨p, M0, H0, ρ, b, R, ei, q⟩ := q
  refine ⟨_, R.pool i ei, p, M0, H0, ρ, b, R, f.m (fun ds b1 ⟨l, q⟩ vs H1 k1 i1 r1 => ?_) q⟩
  show spN n F ((p.h :: vs) ++ []) H1 Q E0
  rw [List.append_nil]
  exact ⟨p, _, vs, ds, b1, rfl, fun a o => .inl (R.pl a o), (R.up k1 i1).domu true, i1, r1, l, F.m (fun d b2 q v H2 k2 i2 r2 => q v H2 (k1.tr k2) i2 r2) q⟩
/-! ### walks and comprehensions -/
def inn (pr : Bool) (it : WP (List D)) : TI := fun σ H R => ∃ g M0 H0 ρ b, Rn g M0 H0 H σ ρ b ∧ it.w ρ b fun items b' => ∀ J H', KpM g.own H H' → g.inv b' H' → (∀ M', (∀ a, M' a → Mu true M0 σ ρ a ∨ H' a = none) → DW pr M' H' J items) → R J H'
theorem nI_pure {tg e : Expr} {pr : Bool} {it : Rho → Option (List D)} (h : PI X tg e (iD true pr it)) : PI X tg e (inn pr (wP it)) := h.wk fun σ H Q q => by
  obtain ⟨g, M0, H0, ρ, b, R, d, e, q⟩ := q
  exact ⟨_, H, _, d, R.rs true, e, fun J H1 s1 dw => q J H1 (.of s1) (Pl.same R.iv s1) fun M' hM => dw M' fun a m => (hM a m).elim (fun z => .inl (.inl z)) .inr⟩
def wI (it : Rho → Option (List D)) : WP (List D) := ⟨fun ρ b Q => ∃ d, it (shutR false ρ) = some d ∧ Q d b, fun h ⟨d, e, q⟩ => ⟨d, e, h _ _ q⟩⟩
theorem nI_ran1 {tg a : Expr} {p pos : Pos} {f : WP (List D)} (hg : Gl X "range") (hm : X.mg "range" = none) (ha : PA X [a] (tnA f)) (hs : starEach [a] X.env = [(false, eval a X.env)] := by rfl) : PI X tg (.Call (.Name "range" p) [a] [] pos) (inn false (wB f ran1D)) := (pi_range1 hg hm ha hs).wk fun σ H R q => by
  obtain ⟨p, M0, H0, ρ, b, Rr, q⟩ := q
  refine ⟨p, M0, H0, ρ, b, Rr, f.m (fun ds b1 ⟨d, e, q⟩ vs H1 k1 i1 r1 => ?_) q⟩
  cases r1 with
  | nil => cases e
  | cons h t =>
    cases t with
    | nil =>
      cases h <;> try (cases e; done)
      obtain ⟨l, rfl⟩ := iteS e
      exact ⟨_, rfl, l.1, by omega, q _ _ k1 i1 fun M' hM => DW.rng (szR (by omega))⟩
    | cons h2 t => cases h <;> cases e
theorem Rn.inner {g : Pl} {M0 : Addr → Prop} {H0 H H2 : Hp} {σ : L2.St} {ρ : Rho} {b b2 : Nat} {D : Addr} {acc : List V} (R : Rn g M0 H0 H σ ρ b) (hD : H D = none) (k : KpM g.own H H2) (i2 : g.inv b2 H2) (eD : H2 D = some (.lst acc)) (vs : List Nat) : Rn g (Mi true M0 σ ρ D) H2 H2 (wipe σ vs) (wipeR (shutR true ρ) vs) b2 := by
  have no : ∀ (vs : List Nat) a, Mu true (Mi true M0 σ ρ D) (wipe σ vs) (wipeR (shutR true ρ) vs) a → Mi true M0 σ ρ D a := fun vs a m => Mi.noOwn a m
  have nown : ∀ (vs : List Nat) (i : Nat) (ds : List Dl.D), (wipeR (shutR true ρ) vs)[i]? = some (some (.own ds)) → False := by
    intro vs
    induction vs with
    | nil => intro i ds e; exact shut_nown e
    | cons v vs ih =>
      intro i ds e
      rcases set_get (show ((wipeR (shutR true ρ) vs).set v none)[i]? = _ from e) with ⟨_, z⟩ | ⟨_, z⟩
      · cases z
      · exact ih i ds z
  have lv : ∀ (vs : List Nat) (i : Nat) (x : LV), (wipeR (shutR true ρ) vs)[i]? = some (some x) → ρ[i]? = some (some x) ∧ i ∉ vs := by
    intro vs
    induction vs with
    | nil =>
      intro i x e
      rcases seal_get (show (shutR true ρ)[i]? = _ from e) with ⟨e, _⟩ | ⟨z, _⟩
      · exact ⟨e, by simp⟩
      · cases z
    | cons v vs ih =>
      intro i x e
      rcases set_get (show ((wipeR (shutR true ρ) vs).set v none)[i]? = _ from e) with ⟨_, z⟩ | ⟨n, z⟩
      · cases z
      · have := ih i x z
        exact ⟨this.1, by simp only [List.mem_cons, not_or]; exact ⟨fun w => n w.symm, this.2⟩⟩
  have dm : Dom (Mi true M0 σ ρ D) H2 := fun p m => by
    rcases m with m | rfl
    · exact (R.up k i2).domu true p m
    · rw [eD]; intro z; cases z
  refine ⟨.refl, dm, dm, fun p o => .inl (.inl (R.pl p o)), i2, ?_, fun i d e => ?_, fun i ds e => (nown vs i ds e).elim, fun i v e => ?_, fun i e => ?_, fun i j a b p e => (nown vs i _ e).elim⟩
  · have : ∀ vs : List Nat, (wipeR (shutR true ρ) vs).length = ρ.length := by
      intro vs
      induction vs with
      | nil => unfold wipeR shutR; rw [List.length_map]
      | cons v vs ih => unfold wipeR; rw [List.length_set, ih]
    rw [this, wipe_len, R.len]
  · obtain ⟨e1, nv⟩ := lv vs i _ e
    obtain ⟨v, a, c⟩ := R.dat i d e1
    refine ⟨v, by rw [wipe_get nv]; exact a, (c.reM (M' := Mu true (Mi true M0 σ ρ D) (wipe σ vs) (wipeR (shutR true ρ) vs)) fun a m => ?_).mono fun p o n e => k p o (fun z => n (.inl (.inl (.inl (R.pl p z))))) e⟩
    rcases no vs a m with m | rfl
    · exact .inl m
    · exact .inr hD
  · obtain ⟨e1, nv⟩ := lv vs i _ e
    rw [wipe_get nv]
    exact R.raw i v e1
  · obtain ⟨e1, nv⟩ := lv vs i _ e
    rw [wipe_get nv]
    exact R.pool i e1
theorem Rn.set {g : Pl} {M0 : Addr → Prop} {H0 H : Hp} {σ : L2.St} {ρ : Rho} {b : Nat} {i : Nat} {v : V} {d : D} (R : Rn g M0 H0 H σ ρ b) (r : Rp (Mu true M0 σ ρ) H v d) : Rn g M0 H0 H (σ.set i (some v)) (ρ.set i (some (.dat d))) b := by
  have sh : ∀ a, Mu true M0 (σ.set i (some v)) (ρ.set i (some (.dat d))) a → Mu true M0 σ ρ a ∨ H a = none := fun a m => .inl (Mu.shrink (fun ds e => by cases e) a m)
  refine ⟨R.kp, R.dom0, R.dom, R.pl, R.iv, by rw [List.length_set, List.length_set]; exact R.len, fun j d' e => ?_, fun j ds e => ?_, fun j w e => ?_, fun j e => ?_, fun j k a b p e1 e2 e3 e4 => ?_⟩
  · rcases set_get e with ⟨rfl, e9⟩ | ⟨n, e⟩
    · cases e9
      have hl : i < ρ.length := by
        have := (List.getElem?_eq_some_iff.mp e).1
        rwa [List.length_set] at this
      exact ⟨v, set_same (by rw [← R.len]; exact hl), r.reM sh⟩
    · obtain ⟨w, x, y⟩ := R.dat j d' e
      exact ⟨w, by rw [set_other n]; exact x, y.reM sh⟩
  · rcases set_get e with ⟨rfl, e9⟩ | ⟨n, e⟩
    · cases e9
    · obtain ⟨p, vs, x, y, z, l, w⟩ := R.own j ds e
      exact ⟨p, vs, by rw [set_other n]; exact x, y, z, l, w.reM sh⟩
  · rcases set_get e with ⟨rfl, e9⟩ | ⟨n, e⟩
    · cases e9
    · rw [set_other n]; exact R.raw j w e
  · rcases set_get e with ⟨rfl, e9⟩ | ⟨n, e⟩
    · cases e9
    · rw [set_other n]; exact R.pool j e
  · rcases set_get e1 with ⟨rfl, e⟩ | ⟨n1, f1⟩
    · cases e
    rcases set_get e2 with ⟨rfl, e⟩ | ⟨n2, f2⟩
    · cases e
    rw [set_other n1] at e3
    rw [set_other n2] at e4
    exact R.inj j k a b p f1 f2 e3 e4
mutual
theorem bindP.okN {K : PySem.W.Frag} {g : Pl} {M0 : Addr → Prop} {H0 H : Hp} {b : Nat} : ∀ {p : Pat} {σ : L2.St} {ρ ρ' : Rho} {v : V} {d : D} {Q : L2.St → Hp → Prop} {pr : Bool}, Rn g M0 H0 H σ ρ b → RpI pr (Mu true M0 σ ρ) H v d → p.fits pr = true → bindP p d ρ = some ρ' →
    (∀ σ', Rn g M0 H0 H σ' ρ' b → Bnd M0 σ ρ (slP p) σ' ρ' → Q σ' H) → gP K p v σ H Q
  | .nm i, σ, ρ, ρ', v, d, Q, pr, R, r, ft, e, q => by
    have hpr : pr = false := by cases pr <;> first | rfl | cases ft
    subst hpr
    have r : Rp (Mu true M0 σ ρ) H v d := by
      rcases r with r | ⟨z, _⟩
      · exact r
      · cases z
    unfold bindP at e
    obtain ⟨l, rfl⟩ := iteS e
    refine q _ (R.set r) ⟨fun j hj => set_other fun z => hj (by rw [z]; exact List.mem_singleton.mpr rfl), List.length_set .., Mu.shrink fun ds e => by cases e⟩
  | .tp ps, σ, ρ, ρ', v, d, Q, pr, R, r, ft, e, q => by
    rcases r with r | ⟨_, a, xs, ds, rfl, rfl, t, r⟩
    · cases r <;> try (cases e; done)
      rename_i xs ds t n l r
      have hl := bindPs.len (show bindPs ps ds ρ = some ρ' from e)
      exact ⟨_, xs, rfl, t.sq, by rw [r.len]; exact hl, bindPs.okN R r e q⟩
    · have hl := bindPs.len (show bindPs ps ds ρ = some ρ' from e)
      exact ⟨_, xs, rfl, SqT.of t, by rw [r.len]; exact hl, bindPs.okN R r e q⟩
theorem bindPs.okN {K : PySem.W.Frag} {g : Pl} {M0 : Addr → Prop} {H0 H : Hp} {b : Nat} : ∀ {ps : Pats} {σ : L2.St} {ρ ρ' : Rho} {vs : List V} {ds : List D} {Q : L2.St → Hp → Prop}, Rn g M0 H0 H σ ρ b → RpAll (Mu true M0 σ ρ) H vs ds → bindPs ps ds ρ = some ρ' →
    (∀ σ', Rn g M0 H0 H σ' ρ' b → Bnd M0 σ ρ (slPs ps) σ' ρ' → Q σ' H) → gPs K ps vs σ H Q
  | .nil, σ, ρ, ρ', vs, ds, Q, R, r, e, q => by
    cases r with
    | nil => cases e; exact ⟨rfl, q σ R ⟨fun _ _ => rfl, rfl, fun a m => m⟩⟩
    | cons h t => cases e
  | .cons p ps, σ, ρ, ρ', vs, ds, Q, R, r, e, q => by
    cases r with
    | nil => cases e
    | cons h t =>
      unfold bindPs at e
      obtain ⟨ρ1, e1, e⟩ := some_bind e
      refine ⟨_, _, rfl, bindP.okN (pr := false) R (.inl h) (by cases p <;> rfl) e1 fun σ1 R1 B1 => ?_⟩
      refine bindPs.okN R1 (t.reM fun a m => .inl (B1.mu a m)) e fun σ2 R2 B2 => q σ2 R2 ⟨fun j hj => ?_, B2.len.trans B1.len, fun a m => B1.mu a (B2.mu a m)⟩
      have hj : j ∉ slP p ++ slPs ps := hj
      rw [List.mem_append, not_or] at hj
      rw [B2.oth j hj.2, B1.oth j hj.1]
end
def lcN (p : Pat) (c : WP Bool) (f : WP D) (ρ : Rho) : List D → Nat → (List D → Nat → Prop) → Prop
  | [], b, Q => Q [] b
  | x :: xs, b, Q => ∃ ρ1, bindP p x ρ = some ρ1 ∧ c.w ρ1 b fun k b1 => if k = true then f.w ρ1 b1 fun d b2 => lcN p c f ρ xs b2 fun r b3 => Q (d :: r) b3 else lcN p c f ρ xs b1 Q
theorem lcN.mono {p : Pat} {c : WP Bool} {f : WP D} {ρ : Rho} : ∀ {xs : List D} {b : Nat} {P Q : List D → Nat → Prop}, (∀ r b, P r b → Q r b) → lcN p c f ρ xs b P → lcN p c f ρ xs b Q
  | [], _, _, _, h, z => h _ _ z
  | x :: xs, b, P, Q, h, ⟨ρ1, e, z⟩ => ⟨ρ1, e, c.m (fun k b1 y => by
      cases k with
      | true => exact f.m (fun d b2 y => lcN.mono (fun r b3 y => h _ _ y) y) y
      | false => exact lcN.mono h y) z⟩
def wLc (vs : List Nat) (it : WP (List D)) (p : Pat) (c : WP Bool) (f : WP D) : WP D := ⟨fun ρ b Q => it.w ρ b fun items b1 => lcN p c f (wipeR (shutR true ρ) vs) items b1 fun r b2 => Q (.list r) b2, fun h z => it.m (fun items b1 y => lcN.mono (fun r b2 y => h _ _ y) y) z⟩
theorem lcCoreN {g : Pl} {pr : Bool} {M0 : Addr → Prop} {H0 H1 : Hp} {σ : L2.St} {ρ : Rho} {b : Nat} {J : It} {items : List D} {p : Pat} {c : WP Bool} {f : WP D} {vs : List Nat} {D : Addr} {Qd : Hp → Prop} {P : List Dl.D → Nat → Prop}
    (R : Rn g M0 H0 H1 σ ρ b) (dw : ∀ M', (∀ a, M' a → Mu true M0 σ ρ a ∨ H1 a = none) → DW pr M' H1 J items) (hD : H1 D = none) (hp : p.fits pr = true) (hs : ∀ j, j ∈ slP p → j ∈ vs) (e : lcN p c f (wipeR (shutR true ρ) vs) items b P)
    (q : ∀ H acc res b', KpM g.own H1 H → g.inv b' H → H D = some (.lst acc) → acc.length ≤ sizeLine → RpAll (Mi true M0 σ ρ D) H acc res → P res b' → Qd H) :
    ∃ W : Nat → Nat → Hp → Prop, (∃ m, W 0 m (upd H1 D (.lst []))) ∧ ∀ i m H, W i m H →
      (J.stop i H ∧ Qd H) ∨ (J.go i H ∧ ∃ Nx : Hp → Prop, (∀ H', Nx H' → ∃ m', m' < m ∧ W (i + 1) m' H') ∧ ∀ x H', J.yld i H x H' → gP K p x (wipe σ vs) H' fun σ2 H2 => wipe σ2 vs = wipe σ vs ∧ tnT c σ2 H2 fun b H3 =>
        if b = true then tn f σ2 H3 fun y H4 => ∃ acc, H4 D = some (.lst acc) ∧ acc.length < sizeLine ∧ Nx (upd H4 D (.lst (acc ++ [y]))) else Nx H3) := by
  have dw := dw (Mi true M0 σ ρ D) fun a m => m.elim .inl fun z => .inr (by rw [z]; exact hD)
  have sz := dw.sz
  obtain ⟨G, Y, W, hG, hY⟩ := dw.ex
  have pI : ∀ {H H' : Hp}, KpM g.own H H' → KpM (Mi true M0 σ ρ D) H H' := fun k p o n e => k p o (fun z => n (.inl (.inl (R.pl p z)))) e
  have gD : ¬ g.own D := fun o => R.dom D (R.pl D o) hD
  refine lc_it W (fun i H => KpM g.own H1 H ∧ ∃ acc done b', H D = some (.lst acc) ∧ acc.length ≤ i ∧ g.inv b' H ∧ RpAll (Mi true M0 σ ρ D) H acc done ∧ lcN p c f (wipeR (shutR true ρ) vs) (items.drop i) b' fun r b3 => P (done ++ r) b3) ⟨.of (smN hD), [], [], b, upd_same, Nat.le_refl _, Pl.same R.iv (smN hD), .nil, e⟩ (fun i H hi h => hG H (pI h.1)) (fun i v H H' hi h y => ?_) (fun H h => ?_)
  · obtain ⟨sm, acc, done, b1, eD, la, iv, ra, er⟩ := h
    obtain ⟨d, ed, s2, rv⟩ := hY i v H H' (pI sm) y
    rw [drop_at ed] at er
    unfold lcN at er
    obtain ⟨ρ1, e1, er⟩ := er
    have Rin := R.inner hD (sm.tr (.of s2)) (Pl.same iv s2) (s2 _ _ eD) vs
    refine bindP.okN (pr := pr) Rin ?_ hp e1 fun σ2 R2 B2 => ⟨wipe_eq B2.oth B2.len hs, _, _, _, ρ1, b1, R2, c.m (fun k b2 er H3 k3 i3 => ?_) er⟩
    · rcases rv with rv | ⟨zp, a, xs, ds, z1, z2, z3, z4⟩
      · exact .inl (rv.reM fun a m => .inl (Mi.noOwn a m))
      · exact .inr ⟨zp, a, xs, ds, z1, z2, z3, z4.reM fun a m => .inl (Mi.noOwn a m)⟩
    have k23 : KpM g.own H H3 := (KpM.of s2).tr k3
    cases k with
    | true =>
      refine ⟨_, _, _, ρ1, b2, R2.up k3 i3, f.m (fun dv b3 er y H4 k4 i4 r4 => ?_) er⟩
      have k24 := k23.tr k4
      have eD4 := k24 _ _ gD eD
      have kp : KpM (Mi true M0 σ ρ D) H4 (upd H4 D (.lst (acc ++ [y]))) := fun q o n e => by
        rw [upd_ne (fun z => n (.inr z))]
        exact e
      have r4 : Rp (Mi true M0 σ ρ D) H4 y dv := r4.reM fun a m => .inl (.inl m)
      refine ⟨acc, eD4, by omega, fun q o n e => ?_, acc ++ [y], done ++ [dv], b3, upd_same, by rw [List.length_append]; simp; omega, g.loc i4 fun p o => upd_ne fun z => gD (by rw [← z]; exact o), ?_, lcN.mono (fun r b z => by rw [List.append_assoc]; exact z) er⟩
      · rw [upd_ne (ne_of_none e hD)]
        exact (sm.tr k24) _ _ n e
      · exact ((ra.mono (pI k24)).mono kp).app (.cons (r4.mono kp) .nil)
    | false =>
      exact ⟨sm.tr k23, acc, done, b2, k23 _ _ gD eD, by omega, i3, ra.mono (pI k23), er⟩
  · obtain ⟨sm, acc, done, b1, eD, la, iv, ra, er⟩ := h
    rw [List.drop_length] at er
    have er : P (done ++ []) b1 := er
    rw [List.append_nil] at er
    exact q H acc done b1 sm iv eD (by omega) ra er
def wYes : WP Bool := ⟨fun _ b Q => Q true b, fun h z => h _ _ z⟩
theorem nTs_nil : PTs X [] (tnT wYes) := pts_nil.wk fun σ H Q q => by
  obtain ⟨p, M0, H0, ρ, b, R, q⟩ := q
  exact q H .refl R.iv
theorem nLcE {it : WP (List D)} {p : Pat} {c : WP Bool} {f : WP D} {vs : List Nat} {pr : Bool} (hp : p.fits pr = true) (hs : ∀ j, j ∈ slP p → j ∈ vs) {σ : L2.St} {H : Hp} {Q : VK} (q : tn (wLc vs it p c f) σ H Q) : tLc (inn pr it) (gP K p) (tnT c) (tn f) vs σ H Q := by
  obtain ⟨g, M0, H0, ρ, b, R, q⟩ := q
  refine ⟨g, M0, H0, ρ, b, R, it.m (fun items b1 q J H1 k1 i1 dw D hD => ?_) q⟩
  exact lcCoreN (R.up k1 i1) dw hD hp hs q fun H2 acc res b2 k2 i2 eD la ra q => q _ _ (k1.tr k2) i2 (.lst eD (((R.up k1 i1).domu true).not hD) la (ra.reM fun a m => .inl (.inl m)))
/-- a new list, with draws -/
def tnN (f : WP D) : TE := fun σ H Q => ∃ g M0 H0 ρ b, Rn g M0 H0 H σ ρ b ∧ f.w ρ b fun d b' => ∃ ds, d = .list ds ∧ ∀ p vs H', H p = none → KpM g.own H H' → g.inv b' H' → H' p = some (.lst vs) → vs.length ≤ sizeLine → RpAll (Mi true M0 σ ρ p) H' vs ds → Q (.ref p) H'
theorem nLcN {it : WP (List D)} {p : Pat} {c : WP Bool} {f : WP D} {vs : List Nat} {pr : Bool} (hp : p.fits pr = true) (hs : ∀ j, j ∈ slP p → j ∈ vs) {σ : L2.St} {H : Hp} {Q : VK} (q : tnN (wLc vs it p c f) σ H Q) : tLc (inn pr it) (gP K p) (tnT c) (tn f) vs σ H Q := by
  obtain ⟨g, M0, H0, ρ, b, R, q⟩ := q
  refine ⟨g, M0, H0, ρ, b, R, it.m (fun items b1 q J H1 k1 i1 dw D hD => ?_) q⟩
  have nD : H D = none := by
    cases z : H D with
    | none => rfl
    | some o =>
      by_cases ow : g.own D
      · exact ((g.alive i1 ow) hD).elim
      · rw [k1 _ _ ow z] at hD; cases hD
  exact lcCoreN (R.up k1 i1) dw hD hp hs q fun H2 acc res b2 k2 i2 eD la ra ⟨ds, z, q⟩ => by
    cases z
    exact q D acc H2 nD (k1.tr k2) i2 eD la ra
end
end Dl
namespace Dl
open PySem PySem.Spec PyProof.Rows L2 Rt
/-! ### statements that draw -/
def PostN (g : Pl) (M0 : Addr → Prop) (H0 : Hp) (σ : L2.St) (ρ : Rho) (H : Hp) (Dn : Ends) : Out → Nat → Prop
  | .nx ρ', b => ∀ σ' H', Rn g M0 H0 H' σ' ρ' b → Stp M0 σ ρ H σ' ρ' H' → Dn.nx σ' H'
  | .rt d, b => ∀ v H', KpM g.own H0 H' → g.inv b H' → Rp M0 H' v d → Dn.rt v H'
  | .bk ρ', b => ∀ σ' H', Rn g M0 H0 H' σ' ρ' b → Stp M0 σ ρ H σ' ρ' H' → Dn.bk σ' H'
  | .ct ρ', b => ∀ σ' H', Rn g M0 H0 H' σ' ρ' b → Stp M0 σ ρ H σ' ρ' H' → Dn.ct σ' H'
theorem PostN.from {g : Pl} {M0 : Addr → Prop} {H0 : Hp} {σ σ1 : L2.St} {ρ ρ1 : Rho} {H H1 : Hp} {Dn : Ends} {o : Out} {b : Nat} (st : Stp M0 σ ρ H σ1 ρ1 H1) (p : PostN g M0 H0 σ ρ H Dn o b) : PostN g M0 H0 σ1 ρ1 H1 Dn o b := by
  cases o with
  | nx ρ' => exact fun σ' H' R s => p σ' H' R (st.trans s)
  | rt d => exact p
  | bk ρ' => exact fun σ' H' R s => p σ' H' R (st.trans s)
  | ct ρ' => exact fun σ' H' R s => p σ' H' R (st.trans s)
def tSn (f : WP Out) : TS := fun Dn σ H => ∃ g M0 H0 ρ b, Rn g M0 H0 H σ ρ b ∧ f.w ρ b fun o b' => PostN g M0 H0 σ ρ H Dn o b'
theorem Rn.stp {g : Pl} {M0 : Addr → Prop} {H0 H H' : Hp} {σ : L2.St} {ρ : Rho} {b : Nat} (R : Rn g M0 H0 H σ ρ b) (k : KpM g.own H H') : Stp M0 σ ρ H σ ρ H' := ⟨fun p o n e => k p o (fun z => n (.inl (R.pl p z))) e, fun p m => .inl m⟩
section
variable {X : Cx} {K : PySem.W.Frag}
def swAsg (p : Pat) (f : WP D) : WP Out := ⟨fun ρ b Q => f.w ρ b fun d b' => ∃ ρ1, bindP p d ρ = some ρ1 ∧ Q (.nx ρ1) b', fun h z => f.m (fun d b' ⟨ρ1, e, y⟩ => ⟨ρ1, e, h _ _ y⟩) z⟩
theorem nS_asg {st : Stmt} {p : Pat} {f : WP D} (h : PS X st (tAsg (tn f) (gP K p))) : PS X st (tSn (swAsg p f)) := h.wk fun Dn σ H q => by
  obtain ⟨g, M0, H0, ρ, b, R, q⟩ := q
  refine ⟨g, M0, H0, ρ, b, R, f.m (fun d b' ⟨ρ1, e1, q⟩ v H1 k1 i1 r1 => ?_) q⟩
  exact bindP.okN (pr := false) (R.up k1 i1) (.inl r1) (by cases p <;> rfl) e1 fun σ1 R1 B1 => q σ1 H1 R1 ((R.stp k1).trans ⟨.refl, fun p m => .inl (B1.mu p m)⟩)
def swRet (f : WP D) : WP Out := ⟨fun ρ b Q => f.w ρ b fun d b' => Q (.rt d) b', fun h z => f.m (fun d b' y => h _ _ y) z⟩
theorem nS_ret {st : Stmt} {f : WP D} (h : PS X st (tRet (tn f))) : PS X st (tSn (swRet f)) := h.wk fun Dn σ H q => by
  obtain ⟨g, M0, H0, ρ, b, R, q⟩ := q
  exact ⟨g, M0, H0, ρ, b, R, f.m (fun d b' q v H1 k1 i1 r1 => q v H1 (R.kp.tr k1) i1 (r1.reM Mu.lo)) q⟩
def swRetL (f : EF) : WP Out := ⟨fun ρ b Q => ∃ d, f (shutR false ρ) = some d ∧ Q (.rt d) b, fun h ⟨d, e, y⟩ => ⟨d, e, h _ _ y⟩⟩
theorem nS_retL {st : Stmt} {f : EF} {μ : Bool} (h : PS X st (tRet (tD μ f))) : PS X st (tSn (swRetL f)) := h.wk fun Dn σ H q => by
  obtain ⟨g, M0, H0, ρ, b, R, d, e, q⟩ := q
  exact ⟨_, H, _, d, R.rs false, e, fun v H1 s1 r1 => q v H1 (R.kp.tr (.of s1)) (Pl.same R.iv s1) (r1.reM fun a m => .inl (.inl (.inl m)))⟩
def swIf (c : WP Bool) (f g : WP Out) : WP Out := wIf c f g
theorem nS_if {c : Expr} {a b : List Stmt} {pos : Pos} {t : WP Bool} {f g : WP Out} (hc : PT X c (tnT t)) (ha : PSs X a (tSn f)) (hb : PSs X b (tSn g)) : PS X (.If c a b pos) (tSn (swIf t f g)) := (ps_if hc ha hb).wk fun Dn σ H q => by
  obtain ⟨p, M0, H0, ρ, b, R, q⟩ := q
  refine ⟨p, M0, H0, ρ, b, R, t.m (fun k b1 q H1 k1 i1 => ?_) q⟩
  cases k with
  | true => exact ⟨p, M0, H0, ρ, b1, R.up k1 i1, f.m (fun o b2 q => q.from (R.stp k1)) q⟩
  | false => exact ⟨p, M0, H0, ρ, b1, R.up k1 i1, g.m (fun o b2 q => q.from (R.stp k1)) q⟩
def swSeq (f g : WP Out) : WP Out := ⟨fun ρ b Q => f.w ρ b fun o b1 => match o with
  | .nx ρ' => g.w ρ' b1 Q
  | o => Q o b1, fun h z => f.m (fun o b1 y => by
    cases o with
    | nx ρ' => exact g.m h y
    | rt d => exact h _ _ y
    | bk ρ' => exact h _ _ y
    | ct ρ' => exact h _ _ y) z⟩
theorem nSs_cons {st : Stmt} {rest : List Stmt} {f g : WP Out} (h : PS X st (tSn f)) (hs : PSs X rest (tSn g)) : PSs X (st :: rest) (tSn (swSeq f g)) := (pss_cons h hs).wk fun Dn σ H q => by
  obtain ⟨p, M0, H0, ρ, b, R, q⟩ := q
  refine ⟨p, M0, H0, ρ, b, R, f.m (fun o b1 q => ?_) q⟩
  cases o with
  | nx ρ' => exact fun σ' H' R' s => ⟨p, M0, H0, ρ', b1, R', g.m (fun o b2 q => q.from s) q⟩
  | rt d => exact q
  | bk ρ' => exact q
  | ct ρ' => exact q
theorem nSs_one {st : Stmt} {f : WP Out} (h : PS X st (tSn f)) : PSs X [st] (tSn f) := pss_one h
def swNil : WP Out := ⟨fun ρ b Q => Q (.nx ρ) b, fun h z => h _ _ z⟩
theorem nSs_nil : PSs X [] (tSn swNil) := pss_nil.wk fun Dn σ H q => by
  obtain ⟨p, M0, H0, ρ, b, R, q⟩ := q
  exact q σ H R .refl
def forN (p : Pat) (body : WP Out) : List D → Rho → Nat → (Out → Nat → Prop) → Prop
  | [], ρ, b, Q => Q (.nx ρ) b
  | x :: xs, ρ, b, Q => ∃ ρ1, bindP p x ρ = some ρ1 ∧ body.w ρ1 b fun o b1 => match o with
    | .nx ρ2 => forN p body xs ρ2 b1 Q
    | .ct ρ2 => forN p body xs ρ2 b1 Q
    | .bk ρ2 => Q (.nx ρ2) b1
    | .rt d => Q (.rt d) b1
theorem forN.mono {p : Pat} {body : WP Out} : ∀ {xs : List D} {ρ : Rho} {b : Nat} {P Q : Out → Nat → Prop}, (∀ o b, P o b → Q o b) → forN p body xs ρ b P → forN p body xs ρ b Q
  | [], _, _, _, _, h, z => h _ _ z
  | x :: xs, ρ, b, P, Q, h, ⟨ρ1, e, z⟩ => ⟨ρ1, e, body.m (fun o b1 y => by
      cases o with
      | nx ρ2 => exact forN.mono h y
      | ct ρ2 => exact forN.mono h y
      | bk ρ2 => exact h _ _ y
      | rt d => exact h _ _ y) z⟩
def swFor (it : WP (List D)) (p : Pat) (body : WP Out) : WP Out := ⟨fun ρ b Q => it.w ρ b fun items b1 => forN p body items ρ b1 Q, fun h z => it.m (fun items b1 y => forN.mono h y) z⟩
theorem nFor {it : WP (List D)} {p : Pat} {body : WP Out} {pr : Bool} (hp : p.fits pr = true) {Dn : Ends} {σ : L2.St} {H : Hp} (q : tSn (swFor it p body) Dn σ H) : tFor (inn pr it) (gP K p) (tSn body) Dn σ H := by
  obtain ⟨g, M0, H0, ρ, b, R, q⟩ := q
  refine ⟨g, M0, H0, ρ, b, R, it.m (fun items b1 q J H1 k1 i1 dw => ⟨fun i m σ' H' => i ≤ items.length ∧ m = items.length - i ∧ ∃ ρ' b', Rn g M0 H0 H' σ' ρ' b' ∧ Stp M0 σ ρ H1 σ' ρ' H' ∧ forN p body (items.drop i) ρ' b' fun o b2 => PostN g M0 H0 σ ρ H Dn o b2, ⟨_, Nat.zero_le _, rfl, ρ, b1, R.up k1 i1, .refl, q⟩, ?_⟩) q⟩
  rintro i m σ' H' ⟨hi, rfl, ρ', b', R', st, e⟩
  have dw := dw (fun a => Mu true M0 σ' ρ' a ∨ Mu true M0 σ ρ a) fun a m => m.elim (st.ow a) .inl
  obtain ⟨G, Y, W, hG, hY⟩ := dw.ex
  have kp : KpM (fun a => Mu true M0 σ' ρ' a ∨ Mu true M0 σ ρ a) H1 H' := fun p o n e => st.kp p o (fun m => n (.inr m)) e
  have stA := (R.stp k1).trans st
  by_cases hlt : i < items.length
  · refine .inr ⟨W.goes i H' hlt (hG _ kp), fun σ3 H3 => ∃ ρ3 b3, Rn g M0 H0 H3 σ3 ρ3 b3 ∧ Stp M0 σ ρ H1 σ3 ρ3 H3 ∧ forN p body (items.drop (i + 1)) ρ3 b3 fun o b2 => PostN g M0 H0 σ ρ H Dn o b2, fun σ3 H3 h => ⟨items.length - (i + 1), by omega, hlt, rfl, h⟩, fun x Hb y => ?_⟩
    obtain ⟨d, ed, s2, rv⟩ := hY i x H' Hb kp (W.yields i H' x Hb hlt (hG _ kp) y)
    rw [drop_at ed] at e
    unfold forN at e
    obtain ⟨ρ1, e1, e⟩ := e
    refine bindP.okN (pr := pr) (R'.mono s2) ?_ hp e1 fun σ2 R2 B2 => ⟨g, M0, H0, ρ1, b', R2, body.m (fun o1 b2 e => ?_) e⟩
    · rcases rv with rv | ⟨zp, a, xs, ds, z1, z2, z3, z4⟩
      · exact .inl (rv.reM fun a m => .inl (.inl m))
      · exact .inr ⟨zp, a, xs, ds, z1, z2, z3, z4.reM fun a m => .inl (.inl m)⟩
    have st2 : Stp M0 σ' ρ' H' σ2 ρ1 Hb := ⟨.of s2, fun p m => .inl (B2.mu p m)⟩
    cases o1 with
    | nx ρ2 => exact fun σ3 H3 R3 s3 => ⟨ρ2, b2, R3, (st.trans st2).trans s3, e⟩
    | ct ρ2 => exact fun σ3 H3 R3 s3 => ⟨ρ2, b2, R3, (st.trans st2).trans s3, e⟩
    | bk ρ2 => exact fun σ3 H3 R3 s3 => (show PostN g M0 H0 σ ρ H Dn (.nx ρ2) b2 from e) σ3 H3 R3 ((stA.trans st2).trans s3)
    | rt d => exact e
  · have : i = items.length := by omega
    subst this
    rw [List.drop_length] at e
    exact .inl ⟨W.stops H' (hG _ kp), (show PostN g M0 H0 σ ρ H Dn (.nx ρ') b' from e) σ' H' R' stA⟩
theorem nS_for {st : Stmt} {it : WP (List D)} {p : Pat} {body : WP Out} {pr : Bool} (h : PS X st (tFor (inn pr it) (gP K p) (tSn body))) (hp : p.fits pr = true := by rfl) : PS X st (tSn (swFor it p body)) := h.wk fun Dn σ H q => nFor hp q
/-! lists of one's own -/
theorem Rn.ownSet {g : Pl} {M0 : Addr → Prop} {H0 H : Hp} {σ : L2.St} {ρ : Rho} {b : Nat} {i : Nat} {ds ds' : List D} {p : Addr} {vs vs' : List V} (R : Rn g M0 H0 H σ ρ b) (e : ρ[i]? = some (some (.own ds))) (es : σ[i]? = some (some (.ref p))) (eH : H p = some (.lst vs)) (l : vs'.length ≤ sizeLine) (r : RpAll (Mu true M0 σ ρ) H vs' ds') :
    Rn g M0 H0 (upd H p (.lst vs')) σ (ρ.set i (some (.own ds'))) b ∧ Stp M0 σ ρ H σ (ρ.set i (some (.own ds'))) (upd H p (.lst vs')) := by
  have hi : i < ρ.length := (List.getElem?_eq_some_iff.mp e).1
  have mp : Mu true M0 σ ρ p := .inr ⟨rfl, i, ds, e, es⟩
  have mu : ∀ a, Mu true M0 σ (ρ.set i (some (.own ds'))) a → Mu true M0 σ ρ a := fun a m => by
    rcases m with m | ⟨_, j, es', e1, e2⟩
    · exact .inl m
    · rcases set_get e1 with ⟨rfl, _⟩ | ⟨n, e1⟩
      · exact .inr ⟨rfl, i, ds, e, e2⟩
      · exact .inr ⟨rfl, j, es', e1, e2⟩
  have kp : KpM (Mu true M0 σ ρ) H (upd H p (.lst vs')) := fun a o n e => by
    rw [upd_ne (fun z => n (by rw [z]; exact mp))]
    exact e
  have h0 : H0 p = none := by
    obtain ⟨q, us, a, b, c, _⟩ := R.own i ds e
    rw [es] at a
    cases a
    exact c
  have np : ¬ M0 p := fun m => R.dom0 p m h0
  refine ⟨⟨fun a o n e => ?_, R.dom0, fun a m => ?_, R.pl, g.loc R.iv fun a o => upd_ne fun z => np (by rw [← z]; exact R.pl a o), by rw [List.length_set]; exact R.len, fun j d e1 => ?_, fun j es' e1 => ?_, fun j v e1 => ?_, fun j e1 => ?_, fun j k a b q e1 e2 e3 e4 => ?_⟩, kp, fun a m => .inl (mu a m)⟩
  · rw [upd_ne (fun z => by rw [z, h0] at e; cases e)]
    exact R.kp a o n e
  · rw [upd_ne (fun z => np (by rw [← z]; exact m))]
    exact R.dom a m
  · rcases set_get e1 with ⟨_, z⟩ | ⟨n, e1⟩
    · cases z
    · obtain ⟨v, a, b⟩ := R.dat j d e1
      exact ⟨v, a, (b.mono kp).reM fun a m => .inl (mu a m)⟩
  · rcases set_get e1 with ⟨rfl, z⟩ | ⟨n, e1⟩
    · cases z
      exact ⟨p, vs', es, upd_same, h0, l, (r.mono kp).reM fun a m => .inl (mu a m)⟩
    · obtain ⟨q, us, a, b, c, l', r'⟩ := R.own j es' e1
      refine ⟨q, us, a, ?_, c, l', (r'.mono kp).reM fun a m => .inl (mu a m)⟩
      rw [upd_ne (fun z => n (R.inj i j ds es' p e e1 es (by rw [← z]; exact a)))]
      exact b
  · rcases set_get e1 with ⟨_, z⟩ | ⟨n, e1⟩
    · cases z
    · exact R.raw j v e1
  · rcases set_get e1 with ⟨_, z⟩ | ⟨n, e1⟩
    · cases z
    · exact R.pool j e1
  · have f1 : ∃ a', ρ[j]? = some (some (.own a')) := by
      rcases set_get e1 with ⟨rfl, _⟩ | ⟨_, z⟩
      · exact ⟨ds, e⟩
      · exact ⟨a, z⟩
    have f2 : ∃ a', ρ[k]? = some (some (.own a')) := by
      rcases set_get e2 with ⟨rfl, _⟩ | ⟨_, z⟩
      · exact ⟨ds, e⟩
      · exact ⟨b, z⟩
    obtain ⟨a', f1⟩ := f1
    obtain ⟨b', f2⟩ := f2
    exact R.inj j k a' b' q f1 f2 e3 e4
theorem Rn.ownNew {g : Pl} {M0 : Addr → Prop} {H0 H H' : Hp} {σ : L2.St} {ρ : Rho} {b b' : Nat} {i : Nat} {ds : List D} {p : Addr} {vs : List V} (R : Rn g M0 H0 H σ ρ b) (hi : i < ρ.length) (np : H p = none) (k : KpM g.own H H') (iv : g.inv b' H') (eH : H' p = some (.lst vs)) (l : vs.length ≤ sizeLine) (r : RpAll (Mi true M0 σ ρ p) H' vs ds) :
    Rn g M0 H0 H' (σ.set i (some (.ref p))) (ρ.set i (some (.own ds))) b' ∧ Stp M0 σ ρ H (σ.set i (some (.ref p))) (ρ.set i (some (.own ds))) H' := by
  have mu : ∀ a, Mu true M0 (σ.set i (some (.ref p))) (ρ.set i (some (.own ds))) a → Mi true M0 σ ρ p a := fun a m => by
    rcases m with m | ⟨_, j, es', e1, e2⟩
    · exact .inl (.inl m)
    · rcases set_get e1 with ⟨rfl, _⟩ | ⟨n, e1⟩
      · rw [set_same (by rw [← R.len]; exact hi)] at e2
        cases e2
        exact .inr rfl
      · rw [set_other n] at e2
        exact .inl (.inr ⟨rfl, j, es', e1, e2⟩)
  have h0 : H0 p = none := by
    cases z : H0 p with
    | none => rfl
    | some o =>
      by_cases ow : g.own p
      · exact (R.dom p (R.pl p ow) np).elim
      · rw [R.kp _ _ ow z] at np; cases np
  have re : ∀ a, Mu true M0 (σ.set i (some (.ref p))) (ρ.set i (some (.own ds))) a → Mu true M0 σ ρ a ∨ H a = none := fun a m => by
    rcases mu a m with m | rfl
    · exact .inl m
    · exact .inr np
  have kp : KpM (Mu true M0 σ ρ) H H' := fun p o n e => k p o (fun z => n (.inl (R.pl p z))) e
  have kp2 : KpM (Mu true M0 (σ.set i (some (.ref p))) (ρ.set i (some (.own ds)))) H H' := fun p o n e => k p o (fun z => n (.inl (R.pl p z))) e
  have RU := R.up k iv
  refine ⟨⟨RU.kp, R.dom0, RU.dom, R.pl, iv, by rw [List.length_set, List.length_set]; exact R.len, fun j d e1 => ?_, fun j es' e1 => ?_, fun j v e1 => ?_, fun j e1 => ?_, fun j k a b q e1 e2 e3 e4 => ?_⟩, kp, re⟩
  · rcases set_get e1 with ⟨_, z⟩ | ⟨n, e1⟩
    · cases z
    · obtain ⟨v, a, b⟩ := R.dat j d e1
      exact ⟨v, by rw [set_other n]; exact a, (b.reM re).mono kp2⟩
  · rcases set_get e1 with ⟨rfl, z⟩ | ⟨n, e1⟩
    · cases z
      exact ⟨p, vs, set_same (by rw [← R.len]; exact hi), eH, h0, l, r.reM fun a m => .inl (mu a m)⟩
    · obtain ⟨q, us, a, b, c, l', r'⟩ := R.own j es' e1
      exact ⟨q, us, by rw [set_other n]; exact a, k _ _ (fun o => R.dom0 q (R.pl q o) c) b, c, l', (r'.reM re).mono kp2⟩
  · rcases set_get e1 with ⟨_, z⟩ | ⟨n, e1⟩
    · cases z
    · rw [set_other n]; exact R.raw j v e1
  · rcases set_get e1 with ⟨_, z⟩ | ⟨n, e1⟩
    · cases z
    · rw [set_other n]; exact R.pool j e1
  · have own : ∀ (m : Nat) (es : List D), ρ[m]? = some (some (.own es)) → σ[m]? = some (some (.ref q)) → q ≠ p := fun m es f1 f2 z => by
      obtain ⟨q', us, a, b, _⟩ := R.own m es f1
      rw [f2] at a
      cases a
      rw [z, np] at b
      cases b
    rcases set_get e1 with ⟨rfl, _⟩ | ⟨n1, f1⟩
    · rcases set_get e2 with ⟨rfl, _⟩ | ⟨n2, f2⟩
      · rfl
      · rw [set_same (by rw [← R.len]; exact hi)] at e3
        cases e3
        rw [set_other n2] at e4
        exact (own k b f2 e4 rfl).elim
    · rw [set_other n1] at e3
      rcases set_get e2 with ⟨rfl, _⟩ | ⟨n2, f2⟩
      · rw [set_same (by rw [← R.len]; exact hi)] at e4
        cases e4
        exact (own j a f1 e3 rfl).elim
      · rw [set_other n2] at e4
        exact R.inj j k a b q f1 f2 e3 e4
def swOwn (i : Nat) (f : WP D) : WP Out := ⟨fun ρ b Q => f.w ρ b fun d b' => ∃ ds, d = .list ds ∧ i < ρ.length ∧ Q (.nx (ρ.set i (some (.own ds)))) b', fun h z => f.m (fun d b' ⟨ds, e, l, y⟩ => ⟨ds, e, l, h _ _ y⟩) z⟩
theorem nS_own {st : Stmt} {i : Nat} {f : WP D} (h : PS X st (tAsg (tnN f) (gName i))) : PS X st (tSn (swOwn i f)) := h.wk fun Dn σ H q => by
  obtain ⟨g, M0, H0, ρ, b, R, q⟩ := q
  refine ⟨g, M0, H0, ρ, b, R, f.m (fun d b' ⟨ds, e, hi, q⟩ => ⟨ds, e, fun p vs H1 np k1 i1 eH l r => ?_⟩) q⟩
  obtain ⟨R1, s1⟩ := R.ownNew hi np k1 i1 eH l r
  exact q _ _ R1 s1
theorem nN_pure {e : Expr} {f : EF} (h : PE X e (tN f)) : PE X e (tnN (wP f)) := h.wk fun σ H Q q => by
  obtain ⟨g, M0, H0, ρ, b, R, d, e, ds, rfl, q⟩ := q
  refine ⟨_, H, _, ds, R.rs true, e, fun p vs H1 np s1 eH l r => q p vs H1 np (.of s1) (Pl.same R.iv s1) eH l (r.reM fun a m => ?_)⟩
  rcases m with m | rfl
  · exact .inl (.inl (.inl m))
  · exact .inl (.inr rfl)
theorem nN_lst {es : List Expr} {pos : Pos} {f : WP (List D)} (h : PA X es (tnA f)) : PE X (.List es pos) (tnN (wB f lstO)) := (pe_lst h).wk fun σ H Q q => by
  obtain ⟨g, M0, H0, ρ, b, R, q⟩ := q
  refine ⟨g, M0, H0, ρ, b, R, f.m (fun ds b1 ⟨d, e, ds', z, q⟩ vs H1 k1 i1 r1 => ?_) q⟩
  obtain ⟨l, rfl⟩ := iteS e
  cases z
  refine ⟨by rw [r1.len]; exact l, fun p np => q p vs _ ?_ (k1.tr (.of (smN np))) (Pl.same i1 (smN np)) upd_same (by rw [r1.len]; exact l) ((r1.reM fun a m => ?_).mono (.of (smN np)))⟩
  · cases z : H p with
    | none => rfl
    | some o =>
      by_cases ow : g.own p
      · exact (g.alive i1 ow np).elim
      · rw [k1 _ _ ow z] at np; cases np
  · rcases m with m | rfl
    · exact .inl m
    · exact .inr np
def swApp (i : Nat) (f : WP (List D)) : WP Out := ⟨fun ρ b Q => ∃ ds, ρ[i]? = some (some (.own ds)) ∧ f.w ρ b fun es b' => ∃ d, es = [d] ∧ ds.length < sizeLine ∧ Q (.nx (ρ.set i (some (.own (ds ++ [d]))))) b', fun h ⟨ds, e, z⟩ => ⟨ds, e, f.m (fun es b' ⟨d, e2, l, y⟩ => ⟨d, e2, l, h _ _ y⟩) z⟩⟩
theorem nS_app {st : Stmt} {i : Nat} {f : WP (List D)} (h : PS X st (tDrop (tBM K "list" rAppend (tVar i) (tnA f)))) : PS X st (tSn (swApp i f)) := h.wk fun Dn σ H q => by
  obtain ⟨g, M0, H0, ρ, b, R, ds, z, q⟩ := q
  obtain ⟨p, vs, a, c, h0, l, r⟩ := R.own i ds z
  refine ⟨.ref p, a, .inl ⟨rfl, _, SqL.of c⟩, g, M0, H0, ρ, b, R, f.m (fun es b1 ⟨d, e, l2, q⟩ us H1 k1 i1 r1 => ?_) q⟩
  subst e
  match us, r1 with
  | [u], .cons r1 .nil =>
    have hl : vs.length < sizeLine := by rw [r.len]; exact l2
    have c1 := k1 _ _ (fun o => R.dom0 p (R.pl p o) h0) c
    refine ⟨p, vs, _, rfl, rfl, c1, hl, ?_⟩
    obtain ⟨R1, S1⟩ := (R.up k1 i1).ownSet z a c1 (vs' := vs ++ [u]) (by rw [List.length_append]; exact hl) ((r.mono fun p o n e => k1 p o (fun z => n (.inl (R.pl p z))) e).app (.cons r1 .nil))
    exact q _ _ R1 ((R.stp k1).trans S1)
def swDrop (f : WP D) : WP Out := ⟨fun ρ b Q => f.w ρ b fun _ b' => Q (.nx ρ) b', fun h z => f.m (fun d b' y => h _ _ y) z⟩
theorem nS_expr {st : Stmt} {f : WP D} (h : PS X st (tDrop (tn f))) : PS X st (tSn (swDrop f)) := h.wk fun Dn σ H q => by
  obtain ⟨g, M0, H0, ρ, b, R, q⟩ := q
  exact ⟨g, M0, H0, ρ, b, R, f.m (fun d b' q v H1 k1 i1 r1 => q σ H1 (R.up k1 i1) (R.stp k1)) q⟩
end
/-! ### a def that draws -/
def startP (n : Nat) (ds : List D) : Rho := some .pool :: (ds.map (fun d => some (.dat d)) ++ List.replicate (n - (ds.length + 1)) none)
theorem RpAll.startN {g : Pl} {M : Addr → Prop} {H : Hp} {N : List Str} {vs : List V} {ds : List D} {b : Nat} (dm : Dom M H) (pl : ∀ p, g.own p → M p) (iv : g.inv b H) (r : RpAll M H vs ds) : Rn g M H H (L2.start N (g.h :: vs)) (startP N.length ds) b := by
  have get : ∀ (i : Nat) (x : LV), (startP N.length ds)[i]? = some (some x) → (i = 0 ∧ x = .pool) ∨ ∃ j d, i = j + 1 ∧ ds[j]? = some d ∧ x = .dat d := fun i x e => by
    cases i with
    | zero => cases e; exact .inl ⟨rfl, rfl⟩
    | succ j =>
      have e : (ds.map (fun d => some (LV.dat d)) ++ List.replicate (N.length - (ds.length + 1)) none)[j]? = some (some x) := e
      rw [List.getElem?_append] at e
      split at e
      · rw [List.getElem?_map] at e
        cases z : ds[j]? with
        | none => rw [z] at e; cases e
        | some d => rw [z] at e; cases e; exact .inr ⟨j, d, rfl, z, rfl⟩
      · rw [List.getElem?_replicate] at e
        split at e <;> cases e
  have mu : ∀ a, Mu true M (L2.start N (g.h :: vs)) (startP N.length ds) a → M a ∨ H a = none := fun a m => by
    rcases m with m | ⟨_, j, es, e, _⟩
    · exact .inl m
    · rcases get j _ e with ⟨_, z⟩ | ⟨_, _, _, _, z⟩ <;> cases z
  refine ⟨.refl, dm, dm, pl, iv, ?_, fun i d e => ?_, fun i es e => ?_, fun i v e => ?_, fun i e => ?_, fun i j a b p e => ?_⟩
  · unfold startP L2.start
    simp [r.len]
  · rcases get i _ e with ⟨_, z⟩ | ⟨j, d', rfl, ed, z⟩
    · cases z
    · cases z
      obtain ⟨v, a, b⟩ := r.get ed
      refine ⟨v, ?_, b.reM mu⟩
      unfold L2.start
      rw [List.map_cons, List.cons_append, List.getElem?_cons_succ, List.getElem?_append, if_pos (by rw [List.length_map]; exact (List.getElem?_eq_some_iff.mp a).1), List.getElem?_map, a]
      rfl
  · rcases get i _ e with ⟨_, z⟩ | ⟨_, _, _, _, z⟩ <;> cases z
  · rcases get i _ e with ⟨_, z⟩ | ⟨_, _, _, _, z⟩ <;> cases z
  · rcases get i _ e with ⟨rfl, _⟩ | ⟨_, _, _, _, z⟩
    · rfl
    · cases z
  · rcases get i _ e with ⟨_, z⟩ | ⟨_, _, _, _, z⟩ <;> cases z
def TellsN (Q : D → Nat → Prop) : Out → Nat → Prop
  | .rt d, b => Q d b
  | .nx _, b => Q .none b
  | _, _ => False
theorem okFnN {P : Program} {w : World} {K : PySem.W.Frag} {mg : Str → Option Value} {base : Heap} {x qual : Str} {st : Stmt} {f : Addr} {fd : FuncData} {N ps : List Str} {k n : Nat} {F0 : GF} (F : Fun K x qual st f fd) (S : FnScope N ps (defScope st)) (hn : n + 1 = ps.length)
    (walk : ∀ (cdv : Value) (A : Around) (outer : List Env) (s : Shared) (H : Hp) (E : XK), Room k (A.deeper (envOfC qual (defScope st) s.heap.objs.size f cdv)) →
      ∃ fS, PSs (cxOf CX0 P w K mg base N qual (defScope st) f cdv A outer s H E).nox (defBody st) (tSn fS) ∧ ∀ ds b Q, ds.length = n → F0.f ds b Q → fS.w (startP N.length ds) b (TellsN Q)) :
    FnOk P w K mg base CX0 (k + 1) f fd ps (spN n F0) := by
  refine F.ok S (fun vs H Q E h => ?_) (fun cdv A outer s H vs Q E hr h => ?_)
  · obtain ⟨g, M, ws, ds, b, rfl, _, _, _, r, l, _⟩ := h
    rw [← hn, ← l, ← r.len]
    rfl
  · obtain ⟨g, M, ws, ds, b, rfl, pl, dm, iv, r, l, q⟩ := h
    obtain ⟨fS, hS, hw⟩ := walk cdv A outer s H E hr
    refine ⟨_, hS, g, M, H, _, b, r.startN dm pl iv, fS.m (fun o b' t => ?_) (hw ds b _ l q)⟩
    cases o with
    | nx ρ' => exact fun σ' H' R s => (show ∀ v H', KpM g.own H H' → g.inv b' H' → Rp M H' v .none → Q v H' from t) _ _ R.kp R.iv .non
    | rt d' => exact t
    | bk ρ' => exact t.elim
    | ct ρ' => exact t.elim
end Dl
namespace Rt
open PySem PySem.Spec PyProof.Rows L2
section
variable {X : Cx}
/-! ### 'm' * n -/
theorem fold_app : ∀ (l : List (Array Nat)) (b : Array Nat), (l.foldl (· ++ ·) b).toList = b.toList ++ (l.map Array.toList).flatten
  | [], b => by simp
  | x :: r, b => by
    show (r.foldl (· ++ ·) (b ++ x)).toList = _
    rw [fold_app r (b ++ x)]
    simp
def rRepS : R2 := fun x y H Q => ∃ (z : Str) (n : Int), x = .str z ∧ y = .int n ∧ 1 ≤ n ∧ n ≤ 100 ∧ 0 < z.length ∧ z.length ≤ 100 ∧ ∀ r : Str, r.cps.toList = (List.replicate n.toNat z.cps.toList).flatten → r.length = n.toNat * z.length → Q (.str r) H
theorem op_repS : OpR X (binaryOp .Mult) rRepS := by
  intro pn s σ H x y v u Q I rx ry h
  obtain ⟨z, n, rfl, rfl, h1, h2, h3, h4, q⟩ := h
  obtain ⟨t, rfl⟩ := rx
  obtain ⟨t', rfl⟩ := ry
  have hl : z.length * n.toNat ≤ 10000 := Nat.le_trans (Nat.mul_le_mul h4 (show n.toNat ≤ 100 by omega)) (by decide)
  have el : ∀ r : Str, r.cps.toList = (List.replicate n.toNat z.cps.toList).flatten → r.length = n.toNat * z.length := fun r e => by
    show r.cps.size = _
    rw [← Array.length_toList, e, List.length_flatten, List.map_replicate, List.sum_replicate_nat]
    show n.toNat * z.cps.toList.length = n.toNat * z.cps.size
    rw [Array.length_toList]
  refine PySem.P.mul_str ?_ (fun _ _ => ?_) (fun _ _ => ?_) ?_
  · rw [decide_eq_false (by omega), decide_eq_false (by omega)]; rfl
  · have : (100 : Int) ≤ (2 ^ 63 - 1) / n := (Int.le_ediv_iff_mul_le (by omega)).mpr (by omega)
    omega
  · show decide (z.length * n.toNat > sizeLine) = false
    exact decide_eq_false (by have := sz (n := z.length * n.toNat) (by omega); omega)
  · rw [if_neg (by omega)]
    by_cases e : n = 1
    · subst e
      rw [if_pos (by rfl)]
      have e1 : z.cps.toList = (List.replicate (1 : Int).toNat z.cps.toList).flatten := by simp
      exact ⟨.str z, H, I, ⟨_, rfl⟩, q z e1 (el z e1)⟩
    · rw [if_neg (by simp [e]; omega)]
      have e1 : (⟨(List.replicate n.toNat z.cps).foldl (· ++ ·) #[]⟩ : Str).cps.toList = (List.replicate n.toNat z.cps.toList).flatten := by
        show ((List.replicate n.toNat z.cps).foldl (· ++ ·) #[]).toList = _
        rw [fold_app, List.map_replicate]
        rfl
      refine ⟨?_, ⟨.str _, H, I.tok _, ⟨_, rfl⟩, q _ e1 (el _ e1)⟩⟩
      rw [el _ e1, Nat.mul_comm]
      exact sz (by omega)
/-! ### min, max of a tuple of ints -/
theorem holds_ints {h : Heap} : ∀ {ns : List Int} {us : List Value}, Vals (ns.map V.int) us → PySem.W.HoldAll h us ns
  | [], _, .nil => .nil
  | n :: r, _, .cons a t => by
    obtain ⟨tk, rfl⟩ := a
    exact .cons ⟨_, .int n tk⟩ (holds_ints t)
theorem minOf_le : ∀ (xs : List Int) (x : Int), PySem.W.minOf x xs ∈ x :: xs ∧ ∀ y ∈ x :: xs, PySem.W.minOf x xs ≤ y
  | [], x => ⟨List.mem_cons_self, fun y h => (by
    have e : y = x := by simpa using h
    subst e
    exact Int.le_refl _)⟩
  | z :: r, x => by
    have ih := minOf_le r (if z < x then z else x)
    have e : PySem.W.minOf x (z :: r) = PySem.W.minOf (if z < x then z else x) r := by
      show r.foldl _ (if decide (z < x) = true then z else x) = r.foldl _ (if z < x then z else x)
      simp only [decide_eq_true_eq]
    rw [e]
    have hm := ih.2 _ List.mem_cons_self
    have hx : (if z < x then z else x) ≤ x := by split <;> omega
    have hz : (if z < x then z else x) ≤ z := by split <;> omega
    refine ⟨?_, fun y h => ?_⟩
    · rcases List.mem_cons.mp ih.1 with h | h
      · rw [h]; split <;> simp
      · exact List.mem_cons_of_mem _ (List.mem_cons_of_mem _ h)
    · rcases List.mem_cons.mp h with h | h
      · rw [h]; exact Int.le_trans hm hx
      · rcases List.mem_cons.mp h with h | h
        · rw [h]; exact Int.le_trans hm hz
        · exact ih.2 y (List.mem_cons_of_mem _ h)
theorem maxOf_ge : ∀ (xs : List Int) (x : Int), PySem.W.maxOf x xs ∈ x :: xs ∧ ∀ y ∈ x :: xs, y ≤ PySem.W.maxOf x xs
  | [], x => ⟨List.mem_cons_self, fun y h => (by
    have e : y = x := by simpa using h
    subst e
    exact Int.le_refl _)⟩
  | z :: r, x => by
    have ih := maxOf_ge r (if x < z then z else x)
    have e : PySem.W.maxOf x (z :: r) = PySem.W.maxOf (if x < z then z else x) r := by
      show r.foldl _ (if decide (x < z) = true then z else x) = r.foldl _ (if x < z then z else x)
      simp only [decide_eq_true_eq]
    rw [e]
    have hm := ih.2 _ List.mem_cons_self
    have hx : x ≤ (if x < z then z else x) := by split <;> omega
    have hz : z ≤ (if x < z then z else x) := by split <;> omega
    refine ⟨?_, fun y h => ?_⟩
    · rcases List.mem_cons.mp ih.1 with h | h
      · rw [h]; split <;> simp
      · exact List.mem_cons_of_mem _ (List.mem_cons_of_mem _ h)
    · rcases List.mem_cons.mp h with h | h
      · rw [h]; exact Int.le_trans hx hm
      · rcases List.mem_cons.mp h with h | h
        · rw [h]; exact Int.le_trans hz hm
        · exact ih.2 y (List.mem_cons_of_mem _ h)
def rMinT (K : PySem.W.Frag) : List V → Hp → VK → Prop := fun vs H Q => ∃ (a : Addr) (ns : List Int), vs = [V.ref a] ∧ SqT K H a (ns.map V.int) ∧ 0 < ns.length ∧ ∀ m, m ∈ ns → (∀ y, y ∈ ns → m ≤ y) → Q (.int m) H
def rMaxT (K : PySem.W.Frag) : List V → Hp → VK → Prop := fun vs H Q => ∃ (a : Addr) (ns : List Int), vs = [V.ref a] ∧ SqT K H a (ns.map V.int) ∧ 0 < ns.length ∧ ∀ m, m ∈ ns → (∀ y, y ∈ ns → y ≤ m) → Q (.int m) H
theorem cr_minT (hc : X.calm = true) (hu : X.A.units + 64 < cLine) : CallR X (.builtin "min") (rMinT X.K) := by
  intro pn s σ H vs us Q I r h
  obtain ⟨a, ns, rfl, hs, hne, q⟩ := h
  obtain ⟨its, rv, hl, _⟩ := I.tuple hs
  rw [Vals.ref1 r]
  cases ns with
  | nil => exact absurd hne (by decide)
  | cons x xs =>
    have hH : PySem.W.HoldAll s.heap its.toArray.toList (x :: xs) := holds_ints (ns := x :: xs) rv
    refine PySem.W.min_tuple_datum (I.ok.hd hc) hl hH (by show X.A.units + 1 + 0 < cLine; omega) fun i v h' tk hv ho hk => ?_
    obtain ⟨as, ho⟩ := ho
    cases ho with
    | int _ t => exact ⟨.int _, H, I.kept hk, ⟨_, rfl⟩, q _ (minOf_le xs x).1 (minOf_le xs x).2⟩
theorem cr_maxT (hc : X.calm = true) (hu : X.A.units + 64 < cLine) : CallR X (.builtin "max") (rMaxT X.K) := by
  intro pn s σ H vs us Q I r h
  obtain ⟨a, ns, rfl, hs, hne, q⟩ := h
  obtain ⟨its, rv, hl, _⟩ := I.tuple hs
  rw [Vals.ref1 r]
  cases ns with
  | nil => exact absurd hne (by decide)
  | cons x xs =>
    have hH : PySem.W.HoldAll s.heap its.toArray.toList (x :: xs) := holds_ints (ns := x :: xs) rv
    refine PySem.W.max_tuple_datum (I.ok.hd hc) hl hH (by show X.A.units + 1 + 0 < cLine; omega) fun i v h' tk hv ho hk => ?_
    obtain ⟨as, ho⟩ := ho
    cases ho with
    | int _ t => exact ⟨.int _, H, I.kept hk, ⟨_, rfl⟩, q _ (maxOf_ge xs x).1 (maxOf_ge xs x).2⟩
end
end Rt
namespace Dl
open PySem PySem.Spec PyProof.Rows L2 Rt
def lenD : List D → Option D
  | [.tuple ds] => some (.int ds.length)
  | [.list ds] => some (.int ds.length)
  | [.str z] => some (.int z.length)
  | _ => none
def boolsD : List D → Option (List Bool)
  | [] => some []
  | .bool b :: ds => (boolsD ds).map (b :: ·)
  | _ :: _ => none
def intsD : List D → Option (List Int)
  | [] => some []
  | .int b :: ds => (intsD ds).map (b :: ·)
  | _ :: _ => none
theorem RpAll.bools {M : Addr → Prop} {H : Hp} : ∀ {vs : List V} {ds : List D} {bs : List Bool}, RpAll M H vs ds → boolsD ds = some bs → vs = bs.map V.bl
  | _, _, _, .nil, e => by cases e; rfl
  | _, _, _, .cons (d := .bool b) h t, e => by
    obtain ⟨r, er, rfl⟩ := some_map e
    cases h
    rw [t.bools er]
    rfl
  | _, _, _, .cons (d := .none) h t, e => nomatch e
  | _, _, _, .cons (d := .int _) h t, e => nomatch e
  | _, _, _, .cons (d := .str _) h t, e => nomatch e
  | _, _, _, .cons (d := .list _) h t, e => nomatch e
  | _, _, _, .cons (d := .tuple _) h t, e => nomatch e
  | _, _, _, .cons (d := .dict _) h t, e => nomatch e
theorem RpAll.ints {M : Addr → Prop} {H : Hp} : ∀ {vs : List V} {ds : List D} {bs : List Int}, RpAll M H vs ds → intsD ds = some bs → vs = bs.map V.int
  | _, _, _, .nil, e => by cases e; rfl
  | _, _, _, .cons (d := .int b) h t, e => by
    obtain ⟨r, er, rfl⟩ := some_map e
    cases h
    rw [t.ints er]
    rfl
  | _, _, _, .cons (d := .none) h t, e => nomatch e
  | _, _, _, .cons (d := .bool _) h t, e => nomatch e
  | _, _, _, .cons (d := .str _) h t, e => nomatch e
  | _, _, _, .cons (d := .list _) h t, e => nomatch e
  | _, _, _, .cons (d := .tuple _) h t, e => nomatch e
  | _, _, _, .cons (d := .dict _) h t, e => nomatch e
def allD : List D → Option D
  | [.list ds] => (boolsD ds).map fun bs => .bool (bs.all id)
  | _ => none
def anyD : List D → Option D
  | [.list ds] => (boolsD ds).map fun bs => .bool (bs.any id)
  | _ => none
def tupD : List D → Option D
  | [.list ds] => some (.tuple ds)
  | [.tuple ds] => some (.tuple ds)
  | _ => none
def lisD : List D → Option D
  | [.list ds] => some (.list ds)
  | [.tuple ds] => some (.list ds)
  | _ => none
def intD : List D → Option D
  | [.int i] => some (.int i)
  | [.bool b] => some (.int (if b = true then 1 else 0))
  | _ => none
def min2D : List D → Option D
  | [.int i, .int j] => some (.int (if j < i then j else i))
  | _ => none
def max2D : List D → Option D
  | [.int i, .int j] => some (.int (if j > i then j else i))
  | _ => none
def minL : List Int → Option Int
  | [] => none
  | x :: xs => some (xs.foldl min x)
def maxL : List Int → Option Int
  | [] => none
  | x :: xs => some (xs.foldl max x)
def absD : List D → Option D
  | [.int i] => some (.int (if i < 0 then -i else i))
  | _ => none
def sumD : List D → Option D
  | [.list ds] => (intsD ds).map fun ns => .int ns.sum
  | _ => none
section
variable {X : Cx}
theorem c_len : CallR X (.builtin "len") (rC lenD) := by
  intro pn s σ H xs us Q I r h
  obtain ⟨M, ds, d, dm, ra, e, q⟩ := h
  match ds, ra, e with
  | [.tuple ds], .cons (@Rp.tup _ _ a xs1 _ t n l r) .nil, e =>
    cases e
    exact call_len pn s σ H _ us Q I ‹_› ⟨.ref a, xs1.length, rfl, .inr ⟨_, t.sq, rfl⟩, by rw [r.len]; exact q _ _ (Same.refl _) (.int _)⟩
  | [.list ds], .cons (@Rp.lst _ _ a xs1 _ t n l r) .nil, e =>
    cases e
    exact call_len pn s σ H _ us Q I ‹_› ⟨.ref a, xs1.length, rfl, .inl ⟨_, SqL.of t, rfl⟩, by rw [r.len]; exact q _ _ (Same.refl _) (.int _)⟩
  | [.str z], .cons (.str _ l) .nil, e =>
    cases e
    exact call_len pn s σ H _ us Q I ‹_› ⟨.str z, z.length, rfl, ⟨l, rfl⟩, q _ _ (Same.refl _) (.int _)⟩
theorem c_all (hc : X.calm = true) : CallR X (.builtin "all") (rC allD) := by
  intro pn s σ H xs us Q I r h
  obtain ⟨M, ds, d, dm, ra, e, q⟩ := h
  match ds, ra, e with
  | [.list ds], .cons (.lst t n l r) .nil, e =>
    obtain ⟨bs, eb, rfl⟩ := some_map e
    exact cr_all hc pn s σ H _ us Q I ‹_› ⟨_, bs, rfl, by rw [← r.bools eb]; exact SqL.of t, q _ _ (Same.refl _) (.bl _)⟩
theorem c_any (hc : X.calm = true) : CallR X (.builtin "any") (rC anyD) := by
  intro pn s σ H xs us Q I r h
  obtain ⟨M, ds, d, dm, ra, e, q⟩ := h
  match ds, ra, e with
  | [.list ds], .cons (.lst t n l r) .nil, e =>
    obtain ⟨bs, eb, rfl⟩ := some_map e
    exact cr_any hc pn s σ H _ us Q I ‹_› ⟨_, bs, rfl, by rw [← r.bools eb]; exact SqL.of t, q _ _ (Same.refl _) (.bl _)⟩
theorem c_sum (hc : X.calm = true) : CallR X (.builtin "sum") (rC sumD) := by
  intro pn s σ H xs us Q I r h
  obtain ⟨M, ds, d, dm, ra, e, q⟩ := h
  match ds, ra, e with
  | [.list ds], .cons (.lst t n l r) .nil, e =>
    obtain ⟨bs, eb, rfl⟩ := some_map e
    exact cr_sum hc pn s σ H _ us Q I ‹_› ⟨_, bs, rfl, by rw [← r.ints eb]; exact SqL.of t, q _ _ (Same.refl _) (.int _)⟩
theorem c_tuple : CallR X (.type "tuple") (rC tupD) := by
  intro pn s σ H xs us Q I r h
  obtain ⟨M, ds, d, dm, ra, e, q⟩ := h
  match ds, ra, e with
  | [.list ds], .cons (.lst t n l r) .nil, e =>
    cases e
    exact call_tupF pn s σ H _ us Q I ‹_› ⟨_, _, rfl, SqL.of t, fun p o H' np od eH => by
      subst eH
      exact q _ _ (smN np) (.tup ⟨o, upd_same, od⟩ (dm.not np) l (r.mono (.of (smN np))))⟩
  | [.tuple ds], .cons (.tup t n l r) .nil, e =>
    cases e
    exact call_tuple_of pn s σ H _ us Q I ‹_› ⟨_, _, rfl, .inr ⟨t.sq, q _ _ (Same.refl _) (.tup t n l r)⟩⟩
theorem c_list : CallR X (.type "list") (rC lisD) := by
  intro pn s σ H xs us Q I r h
  obtain ⟨M, ds, d, dm, ra, e, q⟩ := h
  match ds, ra, e with
  | [.list ds], .cons (.lst t n l r) .nil, e =>
    cases e
    exact call_list_of pn s σ H _ us Q I ‹_› ⟨_, _, rfl, .inl (SqL.of t), fun p np => q _ _ (smN np) (.lst upd_same (dm.not np) l (r.mono (.of (smN np))))⟩
  | [.tuple ds], .cons (.tup t n l r) .nil, e =>
    cases e
    exact call_list_of pn s σ H _ us Q I ‹_› ⟨_, _, rfl, .inr t.sq, fun p np => q _ _ (smN np) (.lst upd_same (dm.not np) l (r.mono (.of (smN np))))⟩
theorem c_int : CallR X (.type "int") (rC intD) := by
  intro pn s σ H xs us Q I r h
  obtain ⟨M, ds, d, dm, ra, e, q⟩ := h
  match ds, ra, e with
  | [.int i], .cons (.int _) .nil, e => cases e; exact call_int1 pn s σ H _ us Q I ‹_› (.inl ⟨_, rfl, q _ _ (Same.refl _) (.int _)⟩)
  | [.bool i], .cons (.bl _) .nil, e => cases e; exact call_int1 pn s σ H _ us Q I ‹_› (.inr ⟨_, rfl, q _ _ (Same.refl _) (.int _)⟩)
theorem c_min2 (hc : X.calm = true) : CallR X (.builtin "min") (rC min2D) := by
  intro pn s σ H xs us Q I r h
  obtain ⟨M, ds, d, dm, ra, e, q⟩ := h
  match ds, ra, e with
  | [.int i, .int j], .cons (.int _) (.cons (.int _) .nil), e => cases e; exact call_min2 hc pn s σ H _ us Q I ‹_› ⟨_, _, rfl, q _ _ (Same.refl _) (.int _)⟩
theorem c_max2 (hc : X.calm = true) : CallR X (.builtin "max") (rC max2D) := by
  intro pn s σ H xs us Q I r h
  obtain ⟨M, ds, d, dm, ra, e, q⟩ := h
  match ds, ra, e with
  | [.int i, .int j], .cons (.int _) (.cons (.int _) .nil), e => cases e; exact call_max2 hc pn s σ H _ us Q I ‹_› ⟨_, _, rfl, q _ _ (Same.refl _) (.int _)⟩
theorem c_abs : CallR X (.builtin "abs") (rC absD) := by
  intro pn s σ H xs us Q I r h
  obtain ⟨M, ds, d, dm, ra, e, q⟩ := h
  match ds, ra, e with
  | [.int i], .cons (.int _) .nil, e => cases e; exact call_abs pn s σ H _ us Q I ‹_› ⟨_, rfl, q _ _ (Same.refl _) (.int _)⟩
theorem dE_callB {x : Str} {p pos : Pos} {e : Expr} {es : List Expr} {id : String} {g : List D → Option D} {f : Rho → Option (List D)} {μ : Bool} (c : CallR X (.builtin id) (rC g)) (hg : Gl X x) (hm : X.mg x = none) (hv : bootBuiltins x = some (.builtin id)) (ha : PA X (e :: es) (tA μ f))
    (hn : x ≠ "__name__" := by decide) (hdb : (x == ("__debug__" : Str)) = false := by decide) (he : starEach (e :: es) X.env = (false, eval e X.env) :: starEach es X.env := by rfl) (hpl : (backTo pos (starEach es X.env)).any (·.1) = false := by rfl) :
    PE X (.Call (.Name x p) (e :: es) [] pos) (tD μ (eCall g f)) := (pe_callB c hg hm hv ha hn hdb he hpl).wk fun _ _ _ q => dCall q
theorem dE_callTy {x : Str} {p pos : Pos} {e : Expr} {es : List Expr} {T : String} {g : List D → Option D} {f : Rho → Option (List D)} {μ : Bool} (c : CallR X (.type T) (rC g)) (hg : Gl X x) (hm : X.mg x = none) (hv : bootBuiltins x = some (.type T)) (ha : PA X (e :: es) (tA μ f))
    (hn : x ≠ "__name__" := by decide) (hdb : (x == ("__debug__" : Str)) = false := by decide) (he : starEach (e :: es) X.env = (false, eval e X.env) :: starEach es X.env := by rfl) (hpl : (backTo pos (starEach es X.env)).any (·.1) = false := by rfl) :
    PE X (.Call (.Name x p) (e :: es) [] pos) (tD μ (eCall g f)) := (pe_callTy c hg hm hv ha hn hdb he hpl).wk fun _ _ _ q => dCall q
/-! isinstance -/
def tyN : D → String
  | .none => "NoneType"
  | .bool _ => "bool"
  | .int _ => "int"
  | .str _ => "str"
  | .list _ => "list"
  | .tuple _ => "tuple"
  | .dict _ => "dict"
def isTy (T : String) (d : D) : Option D := (kitB (tyN d) T).map .bool
theorem Rp.ty {K : PySem.W.Frag} {M : Addr → Prop} {H : Hp} {v : V} {d : D} (r : Rp M H v d) : TyX K H v (.type (tyN d)) := by
  cases r with
  | non => exact .base .non
  | bl b => exact .base (.bl b)
  | int i => exact .base (.int i)
  | str x hx => exact .base (.str x)
  | tup t n l r => obtain ⟨o, e, _⟩ := t; exact .fTuple e
  | lst t n l r => exact .base (.lst t)
  | dic t n => exact .base (.dK t)
  | dct t n => exact .base (.dT t)
theorem dE_isi {p pos : Pos} {e e2 : Expr} {T : String} {f : EF} {μ : Bool} (h : PE X e (tD μ f)) (hT : PE X e2 (tC (.ty T))) (hg : Gl X "isinstance") (hm : X.mg "isinstance" = none) (hv : bootBuiltins "isinstance" = some (.builtin "isinstance"))
    (he : starEach (e :: [e2]) X.env = (false, eval e X.env) :: starEach [e2] X.env := by rfl) (he2 : starEach (e2 :: []) X.env = (false, eval e2 X.env) :: starEach [] X.env := by rfl) (hpl : (backTo pos (starEach [e2] X.env)).any (·.1) = false := by rfl) :
    PE X (.Call (.Name "isinstance" p) [e, e2] [] pos) (tD μ (e1 (isTy T) f)) := (pe_callB call_isi hg hm hv (pa_cons h (pa_cons hT pa_nil he2) he) (by decide) (by decide) he hpl).wk fun σ H Q q => by
  obtain ⟨M0, H0, ρ, d, R, e, q⟩ := q
  obtain ⟨d1, e1, e⟩ := some_bind e
  obtain ⟨b, eb, rfl⟩ := some_map e
  exact ⟨M0, H0, ρ, d1, R, e1, fun v H1 s1 r1 => ⟨v, .ty T, .type (tyN d1), .type T, b, rfl, .ty T, r1.ty, kit_ty eb, q _ _ s1 (.bl _)⟩⟩
/-! signs of a text, one by one -/
def strL (z : Str) : List D := z.cps.toList.map fun c => .str ⟨#[c]⟩
def itStr (f : EF) : Rho → Option (List D) := fun ρ => (f ρ).bind fun d => match d with
  | .str z => some (strL z)
  | _ => none
theorem dI_str {tg e : Expr} {f : EF} {μ : Bool} (h : PE X e (tD μ f)) : PI X tg e (iD μ false (itStr f)) := (pi_str h).wk fun σ H R q => by
  obtain ⟨M0, H0, ρ, items, Rr, e, q⟩ := q
  obtain ⟨d, ed, e⟩ := some_bind e
  refine ⟨M0, H0, ρ, d, Rr, ed, fun v H1 s1 r1 => ?_⟩
  cases r1 <;> try (cases e; done)
  rename_i z l
  cases e
  have hl : (strL z).length = z.cps.size := by unfold strL; rw [List.length_map, Array.length_toList]
  refine ⟨z, rfl, q _ _ s1 fun M' hM => ⟨⟨_, _, by rw [hl]; exact walk_str, fun _ _ => trivial, fun i v Ha Hb k y => ?_⟩, by rw [hl]; exact l⟩⟩
  obtain ⟨rfl, c, ec, rfl⟩ := y
  refine ⟨.str ⟨#[c]⟩, ?_, Same.refl _, .inl (.str _ (show 1 ≤ sizeLine by decide))⟩
  unfold strL
  rw [List.getElem?_map, Array.getElem?_toList, ec]
  rfl
/-! tuple(range(n)), t * n -/
def tTupRg (te : L2.St → Hp → (Int → Int → Hp → Prop) → Prop) : TE := fun σ H Q => te σ H fun a b H1 => RgOk a b ∧ ∀ p H', H1 p = none → Same H1 H' → TupF H' p (rgV a b) → Q (.ref p) H'
theorem pe_tupRg {e : Expr} {te : L2.St → Hp → (Int → Int → Hp → Prop) → Prop} {p pos : Pos} (hc : X.calm = true) (hg : Gl X "tuple") (hm : X.mg "tuple" = none) (he : PRg X e te) (na : starEach [e] X.env = (false, eval e X.env) :: starEach [] X.env := by rfl) :
    PE X (.Call (.Name "tuple" p) [e] [] pos) (tTupRg te) := ⟨fun pn s σ H Q I h => Call_ (ld_blt I hg hm boot_tuple (callWith_type1 (args_cons (thn (he pn s σ H _ I h) fun x s1 ⟨r, a, b, t, u, v, H1, ex, hr, I1, ok, q⟩ => args_nil (by
    subst ex
    obtain ⟨b1, b2, b3, b4, b5⟩ := ok
    refine call_tuple_range (I1.ok.hd hc) hr (small_one b1 b2 b3 b4) (rangeSize_nat a b) b5 fun h' tk acc hk hi => ?_
    have J : L2.Inv X pn σ H1 { s1 with heap := h', toks := tk } := I1.kept (t' := tk) hk
    have J2 := Inv.tupF J (vals_rg hi) (by rw [rgV_length]; exact Nat.le_trans b5 (by decide))
    have fr := J.hok.fresh (Nat.le_refl h'.objs.size)
    rw [Array.toArray_toList] at J2
    exact ⟨.ref h'.objs.size, _, J2, rfl, q _ _ fr (smN fr) ⟨_, upd_same, rfl⟩⟩)) na) na) (by decide) (by decide)) rfl⟩
def eTupRg (f : EF) : EF := fun ρ => (f ρ).bind fun d => match d with
  | .int n => if -(2 ^ 62) ≤ n ∧ n < 2 ^ 20 then some (.tuple (rgD 0 n.toNat)) else none
  | _ => none
theorem rgV_rp {M : Addr → Prop} {H : Hp} (n : Int) : RpAll M H (rgV 0 n) (rgD 0 n.toNat) := by
  unfold rgV rgD
  rw [Int.sub_zero]
  induction (List.range n.toNat) with
  | nil => exact .nil
  | cons i r ih => exact .cons (.int _) ih
theorem dE_tupRg {e : Expr} {p pos p2 pos2 : Pos} {f : EF} {μ : Bool} (hc : X.calm = true) (hg : Gl X "tuple") (hm : X.mg "tuple" = none) (hg2 : Gl X "range") (hm2 : X.mg "range" = none) (h : PE X e (tD μ f)) (na : starEach [(Expr.Call (.Name "range" p2) [e] [] pos2)] X.env = (false, eval (Expr.Call (.Name "range" p2) [e] [] pos2) X.env) :: starEach [] X.env := by rfl) (nb : starEach [e] X.env = [(false, eval e X.env)] := by rfl) :
    PE X (.Call (.Name "tuple" p) [.Call (.Name "range" p2) [e] [] pos2] [] pos) (tD μ (eTupRg f)) := (pe_tupRg hc hg hm (prg_1 hg2 hm2 h nb) na).wk fun σ H Q q => by
  obtain ⟨M0, H0, ρ, d, R, e, q⟩ := q
  obtain ⟨d1, e1, e⟩ := some_bind e
  refine ⟨M0, H0, ρ, d1, R, e1, fun v H1 s1 r1 => ?_⟩
  cases r1 <;> try (cases e; done)
  rename_i n
  obtain ⟨l, rfl⟩ := iteS e
  refine ⟨n, rfl, ⟨by decide, by decide, l.1, by omega, by omega⟩, fun a H2 np s2 t => q _ _ (s1.trans s2) (.tup t (((R.mono s1).domu μ).not np) (by rw [rgV_length]; exact szR (by omega)) (rgV_rp n))⟩
/-- t * k -/
def rRepF : R2 := fun x y H Q => ∃ l k xs, x = .ref l ∧ y = .int k ∧ TupF H l xs ∧ xs ≠ [] ∧ 1 ≤ k ∧ k ≤ 1000 ∧ xs.length ≤ 1000 ∧ ∀ p H', (H p = none ∨ p = l) → Same H H' → TupF H' p (List.replicate k.toNat xs).flatten → Q (.ref p) H'
theorem arr_fold {α : Type} : ∀ (l : List (Array α)) (b : Array α), (l.foldl (fun x1 x2 => x1 ++ x2) b).toList = b.toList ++ (l.map Array.toList).flatten
  | [], b => by simp
  | a :: l, b => by
    rw [List.foldl_cons, arr_fold l, Array.toList_append, List.map_cons, List.flatten_cons, List.append_assoc]
theorem vals_rep {xs : List V} {us : List Value} (r : Vals xs us) : ∀ n : Nat, Vals (List.replicate n xs).flatten (List.replicate n us).flatten
  | 0 => .nil
  | n + 1 => by
    rw [List.replicate_succ, List.replicate_succ, List.flatten_cons, List.flatten_cons]
    exact r.append (vals_rep r n)
theorem rep_len {α : Type} {xs : List α} (n : Nat) : (List.replicate n xs).flatten.length = n * xs.length := by
  rw [List.length_flatten, List.map_replicate, List.sum_replicate_nat]
theorem op_repF : OpR X (binaryOp .Mult) rRepF := by
  intro pins s σ H x y v u Q I rx ry h
  obtain ⟨l, k, xs, rfl, rfl, hT, hne, h1, h2, hz, q⟩ := h
  cases rx
  obtain ⟨t, rfl⟩ := ry
  obtain ⟨its, r, ⟨⟨cls, dd, data, sl⟩, ho, hc, n, hd⟩, hs⟩ := I.tuple (hT.sq (K := X.K))
  simp only at hc hd
  subst hc hd
  by_cases e : k = 1
  · subst e
    refine wpAny_binaryOp_repeat_ref (T := "tuple") (U := "int") (by decide) ⟨_, ho, rfl⟩ (fun s' => typeIs_int s' 1 t) noFill_tuple_mul F.fills_int_mul F.slot_int_rmul repeat_tuple F.slot_int_index.lookup
      (call_meets F.slot_int_rmul (typeIs_int s 1 t) F.entry_int_rmul (F.args_int_rmul_2 _ _) (int_rmul_tuple 1 t l its.toArray n dd sl)
        ⟨ho, rfl, ⟨_, ho, rfl⟩, call_meets F.slot_tuple_mul ⟨_, ho, rfl⟩ F.entry_tuple_mul (F.args_tuple_mul_2 _ _) (tuple_mul1 l its.toArray n dd sl t (by simp)) ⟨ho, ?_⟩⟩)
    refine ⟨.ref l, H, I, rfl, q l H (.inr rfl) (Same.refl H) ?_⟩
    simpa using hT
  · have hl := r.length
    have n0 : 0 < its.length := by
      rw [← hl]
      exact List.length_pos_iff.mpr hne
    have ie : its.toArray.isEmpty = false := by
      cases its with
      | nil => exact absurd n0 (by decide)
      | cons a b => rfl
    have fl : (List.foldl (fun x1 x2 => x1 ++ x2) #[] (List.replicate k.toNat its.toArray)).toList = (List.replicate k.toNat its).flatten := by
      rw [arr_fold, List.map_replicate]
      simp
    have sz2 : (List.replicate k.toNat its).flatten.length ≤ sizeLine := by
      rw [rep_len]
      have h3 : k.toNat * its.length ≤ 1000 * 1000 := Nat.mul_le_mul (by omega) (by omega)
      exact Nat.le_trans h3 (by decide)
    have hb : (its.length : Int) * k ≤ 1000 * 1000 := Int.mul_le_mul (by omega) h2 (by omega) (by decide)
    have hb0 : 0 ≤ (its.length : Int) * k := Int.mul_nonneg (by omega) (by omega)
    refine wpAny_binaryOp_repeat_ref (T := "tuple") (U := "int") (by decide) ⟨_, ho, rfl⟩ (fun s' => typeIs_int s' k t) noFill_tuple_mul F.fills_int_mul F.slot_int_rmul repeat_tuple F.slot_int_index.lookup
      (call_meets F.slot_int_rmul (typeIs_int s k t) F.entry_int_rmul (F.args_int_rmul_2 _ _) (int_rmul_tuple k t l its.toArray n dd sl)
        ⟨ho, rfl, ⟨_, ho, rfl⟩, call_meets F.slot_tuple_mul ⟨_, ho, rfl⟩ F.entry_tuple_mul (F.args_tuple_mul_2 _ _) (tuple_mulW l its.toArray n dd sl k t (by simp; omega) (by rw [ie]; simpa using e) (by rw [ie]; simp; omega) ?_ ?_ ?_) ⟨ho, ?_⟩⟩)
    · rw [List.size_toArray]
      have : ((2 : Int) ^ 63 - 1) / 8 = 1152921504606846975 := by decide
      omega
    · rw [List.size_toArray]
      unfold Builtin.Tuple.tupleTooMany
      refine decide_eq_false ?_
      have : ((sizeLine : Nat) : Int) = 16777216 := by decide
      omega
    · rw [← Array.length_toList, fl]; exact sz2
    · have fr := I.hok.fresh (Nat.le_refl s.heap.objs.size)
      have J := Inv.tupF I (vals_rep r k.toNat) (by rw [rep_len, hl, ← rep_len]; exact sz2)
      rw [← fl, Array.toArray_toList] at J
      exact ⟨.ref s.heap.objs.size, _, J, rfl, q _ _ (.inl fr) (smN fr) ⟨_, upd_same, rfl⟩⟩
theorem RpAll.rep {M : Addr → Prop} {H : Hp} {vs : List V} {ds : List D} (h : RpAll M H vs ds) : ∀ n : Nat, RpAll M H (List.replicate n vs).flatten (List.replicate n ds).flatten
  | 0 => .nil
  | n + 1 => by
    rw [List.replicate_succ, List.replicate_succ, List.flatten_cons, List.flatten_cons]
    exact h.app (h.rep n)
def repS (z : Str) (n : Nat) : Str := ⟨(List.replicate n z.cps.toList).flatten.toArray⟩
def mulX : D → D → Option D
  | .int i, .int j => mulD (.int i) (.int j)
  | .tuple ds, .int k => if ds ≠ [] ∧ 1 ≤ k ∧ k ≤ 1000 ∧ ds.length ≤ 1000 then some (.tuple (List.replicate k.toNat ds).flatten) else none
  | .list ds, .int k => if 0 ≤ k ∧ k ≤ 1000 ∧ ds.length ≤ 1000 then some (.list (List.replicate k.toNat ds).flatten) else none
  | .str z, .int n => if 1 ≤ n ∧ n ≤ 100 ∧ 0 < z.length ∧ z.length ≤ 100 then some (.str (repS z n.toNat)) else none
  | _, _ => none
theorem o_mulX : OpR X (binaryOp .Mult) (rD mulX) := by
  intro pn s σ H x y v u Q I rx ry h
  obtain ⟨M, a, b, d, dm, ra, rb, e, q⟩ := h
  cases ra <;> cases rb <;> try (cases e; done)
  · exact o_mul pn s σ H _ _ v u Q I rx ry ⟨M, _, _, d, dm, .int _, .int _, e, q⟩
  · rename_i z hz n
    obtain ⟨l, rfl⟩ := iteS e
    refine op_repS pn s σ H _ _ v u Q I rx ry ⟨_, _, rfl, rfl, l.1, l.2.1, l.2.2.1, l.2.2.2, fun r hr _ => ?_⟩
    have : r = repS z n.toNat := by
      cases r with
      | mk a =>
        unfold repS
        congr
        rw [← Array.toArray_toList (xs := a), ← hr]
    rw [this]
    refine q _ _ (Same.refl _) (.str _ ?_)
    unfold repS
    show (List.toArray _).size ≤ _
    rw [List.size_toArray, rep_len, Array.length_toList]
    exact Nat.le_trans (Nat.mul_le_mul (show n.toNat ≤ 100 by omega) l.2.2.2) (by decide)
  · rename_i t n l r k
    obtain ⟨l2, rfl⟩ := iteS e
    have hl := r.len
    refine op_repF pn s σ H _ _ v u Q I rx ry ⟨_, _, _, rfl, rfl, t, fun z => l2.1 ?_, l2.2.1, l2.2.2.1, by rw [hl]; exact l2.2.2.2, fun p H' hp sm t' => q _ _ sm (.tup t' (fun m => ?_) ?_ ((r.mono (.of sm)).rep _))⟩
    · subst z; cases r; rfl
    · rcases hp with hp | hp
      · exact dm p m hp
      · rw [hp] at m; exact n m
    · rw [rep_len, hl]
      exact Nat.le_trans (Nat.mul_le_mul (show k.toNat ≤ 1000 by omega) l2.2.2.2) (by decide)
  · rename_i t n l r k
    obtain ⟨l2, rfl⟩ := iteS e
    have hl := r.len
    have hm : (List.length ‹List V›) * k.toNat ≤ sizeLine := by
      rw [hl]
      exact Nat.le_trans (Nat.mul_le_mul l2.2.2 (show k.toNat ≤ 1000 by omega)) (by decide)
    exact op_rep pn s σ H _ _ v u Q I rx ry ⟨_, _, _, rfl, rfl, t, by omega, by omega, hm, fun p hp => q _ _ (smN hp) (.lst upd_same (dm.not hp) (by rw [rep_len, Nat.mul_comm]; exact hm) ((r.mono (.of (smN hp))).rep _))⟩
end
end Dl
namespace Dl
open PySem PySem.Spec PyProof.Rows L2 Rt
theorem u65 {k : Nat} {A : Around} (r : Room k A) : A.units + 65 < cLine := by
  have := r.un
  omega
section
variable {X : Cx} {K : PySem.W.Frag}
theorem dE_lc {e : Expr} {it : Rho → Option (List D)} {p : Pat} {c : Rho → Option Bool} {f : EF} {vs : List Nat} {μ μi pr : Bool} (h : PE X e (tLc (iD μ pr it) (gP K p) (tT c) (tD μi f) vs)) (hp : p.fits pr = true := by rfl) (hs : ∀ j, j ∈ slP p → j ∈ vs := by decide) : PE X e (tD μ (eLc μ vs it p c f)) := h.wk fun _ _ _ q => dLc hp hs q
theorem dS_lc {st : Stmt} {i : Nat} {it : Rho → Option (List D)} {p : Pat} {c : Rho → Option Bool} {f : EF} {vs : List Nat} {μi pr : Bool} (h : PS X st (tAsg (tLc (iD true pr it) (gP K p) (tT c) (tD μi f) vs) (gName i))) (hp : p.fits pr = true := by rfl) (hs : ∀ j, j ∈ slP p → j ∈ vs := by decide) : PS X st (tS (sAsg (.nm i) (eLc true vs it p c f))) :=
  dS_asg (K := K) (h.wk fun Dn σ H q => dLc hp hs q)
theorem oS_lc {st : Stmt} {i : Nat} {it : Rho → Option (List D)} {p : Pat} {c : Rho → Option Bool} {f : EF} {vs : List Nat} {μi pr : Bool} (h : PS X st (tAsg (tLc (iD true pr it) (gP K p) (tT c) (tD μi f) vs) (gName i))) (hp : p.fits pr = true := by rfl) (hs : ∀ j, j ∈ slP p → j ∈ vs := by decide) : PS X st (tS (sOwn i (eLc true vs it p c f))) :=
  dS_own (h.wk fun Dn σ H q => nLc hp hs q)
theorem nE_lc {e : Expr} {it : WP (List D)} {p : Pat} {c : WP Bool} {f : WP D} {vs : List Nat} {pr : Bool} (h : PE X e (tLc (inn pr it) (gP K p) (tnT c) (tn f) vs)) (hp : p.fits pr = true := by rfl) (hs : ∀ j, j ∈ slP p → j ∈ vs := by decide) : PE X e (tn (wLc vs it p c f)) := h.wk fun _ _ _ q => nLcE hp hs q
theorem nS_lc {st : Stmt} {i : Nat} {it : WP (List D)} {p : Pat} {c : WP Bool} {f : WP D} {vs : List Nat} {pr : Bool} (h : PS X st (tAsg (tLc (inn pr it) (gP K p) (tnT c) (tn f) vs) (gName i))) (hp : p.fits pr = true := by rfl) (hs : ∀ j, j ∈ slP p → j ∈ vs := by decide) : PS X st (tSn (swAsg (.nm i) (wLc vs it p c f))) :=
  nS_asg (K := K) (h.wk fun Dn σ H q => nLcE hp hs q)
theorem nO_lc {st : Stmt} {i : Nat} {it : WP (List D)} {p : Pat} {c : WP Bool} {f : WP D} {vs : List Nat} {pr : Bool} (h : PS X st (tAsg (tLc (inn pr it) (gP K p) (tnT c) (tn f) vs) (gName i))) (hp : p.fits pr = true := by rfl) (hs : ∀ j, j ∈ slP p → j ∈ vs := by decide) : PS X st (tSn (swOwn i (wLc vs it p c f))) :=
  nS_own (h.wk fun Dn σ H q => nLcN hp hs q)
theorem nE_callB {x : Str} {p pos : Pos} {e : Expr} {es : List Expr} {id : String} {g : List D → Option D} {f : WP (List D)} (c : CallR X (.builtin id) (rC g)) (hg : Gl X x) (hm : X.mg x = none) (hv : bootBuiltins x = some (.builtin id)) (ha : PA X (e :: es) (tnA f))
    (hn : x ≠ "__name__" := by decide) (hdb : (x == ("__debug__" : Str)) = false := by decide) (he : starEach (e :: es) X.env = (false, eval e X.env) :: starEach es X.env := by rfl) (hpl : (backTo pos (starEach es X.env)).any (·.1) = false := by rfl) :
    PE X (.Call (.Name x p) (e :: es) [] pos) (tn (wB f g)) := (pe_callB c hg hm hv ha hn hdb he hpl).wk fun _ _ _ q => nCall q
theorem nE_callTy {x : Str} {p pos : Pos} {e : Expr} {es : List Expr} {T : String} {g : List D → Option D} {f : WP (List D)} (c : CallR X (.type T) (rC g)) (hg : Gl X x) (hm : X.mg x = none) (hv : bootBuiltins x = some (.type T)) (ha : PA X (e :: es) (tnA f))
    (hn : x ≠ "__name__" := by decide) (hdb : (x == ("__debug__" : Str)) = false := by decide) (he : starEach (e :: es) X.env = (false, eval e X.env) :: starEach es X.env := by rfl) (hpl : (backTo pos (starEach es X.env)).any (·.1) = false := by rfl) :
    PE X (.Call (.Name x p) (e :: es) [] pos) (tn (wB f g)) := (pe_callTy c hg hm hv ha hn hdb he hpl).wk fun _ _ _ q => nCall q
/-- x = x + e, both lists, x one's own -/
def eCat (i : Nat) (f : EF) : EF := fun ρ => match ρ[i]? with
  | some (some (.own ds)) => (f ρ).bind fun d => match d with
    | .list es => if ds.length + es.length ≤ sizeLine then some (.list (ds ++ es)) else none
    | _ => none
  | _ => none
theorem oE_cat {a b : Expr} {pos : Pos} {i : Nat} {f : EF} (ha : PE X a (tVar i)) (hb : PE X b (tD true f)) : PE X (.BinOp a .Add b pos) (tN (eCat i f)) := (pe_op op_cat ha hb).wk fun σ H Q q => by
  obtain ⟨M0, H0, ρ, es, R, e, q⟩ := q
  unfold eCat at e
  split at e
  · rename_i ds z
    obtain ⟨d, ed, e⟩ := some_bind e
    obtain ⟨p, vs, a, b, c, l, r⟩ := R.own i ds z
    refine ⟨.ref p, a, M0, H0, ρ, d, R, ed, fun v H1 s1 r1 => ?_⟩
    cases r1 <;> try (cases e; done)
    rename_i t n l1 r1
    obtain ⟨l2, e3⟩ := iteS e
    cases e3
    refine ⟨_, _, _, _, rfl, rfl, s1 _ _ b, t, by rw [r.len, r1.len]; exact l2, fun p2 hp2 => q p2 _ _ ?_ (s1.trans (smN hp2)) upd_same (by rw [List.length_append, r.len, r1.len]; exact l2) ?_⟩
    · cases z : H p2 with
      | none => rfl
      | some o => rw [s1 _ _ z] at hp2; cases hp2
    · have k : ∀ a, Mi true M0 σ ρ p2 a → Mu true M0 σ ρ a ∨ ‹Hp› a = none := fun a m => by
        rcases m with m | rfl
        · exact .inl m
        · exact .inr hp2
      exact (((r.mono (.of s1)).reM k).mono (.of (smN hp2))).app ((r1.reM k).mono (.of (smN hp2)))
  · cases e
def wCat (i : Nat) (f : WP D) : WP D := ⟨fun ρ b Q => ∃ ds, ρ[i]? = some (some (.own ds)) ∧ f.w ρ b fun d b' => ∃ es, d = .list es ∧ ds.length + es.length ≤ sizeLine ∧ Q (.list (ds ++ es)) b', fun h ⟨ds, e, z⟩ => ⟨ds, e, f.m (fun d b' ⟨es, e1, l, y⟩ => ⟨es, e1, l, h _ _ y⟩) z⟩⟩
theorem nO_cat {a b : Expr} {pos : Pos} {i : Nat} {f : WP D} (ha : PE X a (tVar i)) (hb : PE X b (tn f)) : PE X (.BinOp a .Add b pos) (tnN (wCat i f)) := (pe_op op_cat ha hb).wk fun σ H Q q => by
  obtain ⟨g, M0, H0, ρ, b, R, ds, z, q⟩ := q
  obtain ⟨p, vs, a, c, h0, l, r⟩ := R.own i ds z
  refine ⟨.ref p, a, g, M0, H0, ρ, b, R, f.m (fun d b1 ⟨es, e1, l2, q⟩ v H1 k1 i1 r1 => ?_) q⟩
  obtain ⟨es', e3, q⟩ := q
  cases e3
  subst e1
  cases r1 with
  | lst t n l1 r1 =>
    have c1 := k1 _ _ (fun o => R.dom0 p (R.pl p o) h0) c
    refine ⟨_, _, _, _, rfl, rfl, c1, t, by rw [r.len, r1.len]; exact l2, fun p2 hp2 => q p2 _ _ ?_ (k1.tr (.of (smN hp2))) (Pl.same i1 (smN hp2)) upd_same (by rw [List.length_append, r.len, r1.len]; exact l2) ?_⟩
    · cases z : H p2 with
      | none => rfl
      | some o =>
        by_cases ow : g.own p2
        · exact (g.alive i1 ow hp2).elim
        · rw [k1 _ _ ow z] at hp2; cases hp2
    · have k : ∀ a, Mi true M0 σ ρ p2 a → Mu true M0 σ ρ a ∨ H1 a = none := fun a m => by
        rcases m with m | rfl
        · exact .inl m
        · exact .inr hp2
      exact (((r.mono fun p o n e => k1 p o (fun z => n (.inl (R.pl p z))) e).reM k).mono (.of (smN hp2))).app ((r1.reM k).mono (.of (smN hp2)))
def sPar (i j : Nat) (f : Rho → Option (List D)) : Rho → Option Out := fun ρ => (f ρ).bind fun ds => match ds with
  | [a, b] => some (.nx ((ρ.set i (some (.dat a))).set j (some (.dat b))))
  | _ => none
theorem dS_par {st : Stmt} {i j : Nat} {f : Rho → Option (List D)} (h : PS X st (tPar i j (tA true f))) : PS X st (tS (sPar i j f)) := h.wk fun Dn σ H q => by
  obtain ⟨M0, H0, ρ, o, R, e, q⟩ := tS_iff.mp q
  obtain ⟨ds, ed, e⟩ := some_bind e
  refine ⟨M0, H0, ρ, ds, R, ed, fun vs H1 s1 r1 => ?_⟩
  match ds, vs, r1, e with
  | [a, b], [v, w], .cons ra (.cons rb .nil), e =>
    cases e
    have sh : ∀ a', Mu true M0 (σ.set i (some v)) (ρ.set i (some (.dat a))) a' → Mu true M0 σ ρ a' := Mu.shrink fun ds e => by cases e
    have R1 := (R.mono s1).set (i := i) ra
    have R2 := R1.set (i := j) (rb.reM fun a m => .inl (sh a m))
    refine ⟨v, w, rfl, q _ _ R2 ((Stp.of s1).trans ⟨.refl, fun p m => .inl (sh p (Mu.shrink (fun ds e => by cases e) p m))⟩)⟩
def swPar (i j : Nat) (f : WP (List D)) : WP Out := ⟨fun ρ b Q => f.w ρ b fun ds b' => ∃ x y, ds = [x, y] ∧ Q (.nx ((ρ.set i (some (.dat x))).set j (some (.dat y)))) b', fun h z => f.m (fun ds b' ⟨x, y, e, w⟩ => ⟨x, y, e, h _ _ w⟩) z⟩
theorem nS_par {st : Stmt} {i j : Nat} {f : WP (List D)} (h : PS X st (tPar i j (tnA f))) : PS X st (tSn (swPar i j f)) := h.wk fun Dn σ H q => by
  obtain ⟨g, M0, H0, ρ, b, R, q⟩ := q
  refine ⟨g, M0, H0, ρ, b, R, f.m (fun ds b1 ⟨x, y, e, q⟩ vs H1 k1 i1 r1 => ?_) q⟩
  subst e
  match vs, r1 with
  | [v, w], .cons ra (.cons rb .nil) =>
    have sh : ∀ a', Mu true M0 (σ.set i (some v)) (ρ.set i (some (.dat x))) a' → Mu true M0 σ ρ a' := Mu.shrink fun ds e => by cases e
    have R1 := (R.up k1 i1).set (i := i) ra
    have R2 := R1.set (i := j) (rb.reM fun a m => .inl (sh a m))
    refine ⟨v, w, rfl, q _ _ R2 ((R.stp k1).trans ⟨.refl, fun p m => .inl (sh p (Mu.shrink (fun ds e => by cases e) p m))⟩)⟩
/-- a def of a pool's family in the layer's words -/
theorem _root_.L2.FnOk.wk {P : Program} {w : World} {mg : Str → Option Value} {base : Heap} {k : Nat} {f : Addr} {fd : FuncData} {ps : List Str} {sp sp' : Sp} (F : FnOk P w K mg base CX0 k f fd ps sp) (m : ∀ vs H Q E, sp' vs H Q E → sp vs H Q E) : FnOk P w K mg base CX0 k f fd ps sp' :=
  ⟨fun vs H Q E h => F.len vs H Q E (m _ _ _ _ h), fun A outer s H args us vs Q E room e b v h => F.run A outer s H args us vs Q E room e b v (m _ _ _ _ h)⟩
end
end Dl
namespace Dl
open PySem PySem.Spec PyProof.Rows L2 Rt
theorem sub_dict_str : isSubtype (.type "dict") (.type "str") = pure false := by
  rw [isSubtype_type]
  rfl
theorem sub_str_dict : isSubtype (.type "str") (.type "dict") = pure false := by
  rw [isSubtype_type]
  rfl
theorem str_eq_no_dict (b : Str) (u : Tok) (l : Addr) (o : Obj) (es : Array DictEntry) (n : Nat) (hc : o.cls = .type "dict") (hd : o.data = .dict es n) : Meets (Builtin.«str.__eq__» { pos := [.str b u, .ref l] }) fun _ R s => s.heap.get? l = some o ∧ R (.ok (.ret .notImplemented)) s :=
  Meets.of_wp fun prog w A R s h => by
    obtain ⟨hp, g, d, tk, os⟩ := s
    obtain ⟨hl, h⟩ := h
    obtain ⟨cls, dd, dat, sl⟩ := o
    cases hc
    cases hd
    unfold Builtin.«str.__eq__»
    refine wpAny_bind (wpAny_bind ?_)
    unfold slotArgs
    refine wpAny_ite_false rfl (wpAny_ite_false rfl (wpAny_pure (wpAny_bind ?_)))
    unfold Builtin.Str.textOf
    refine wpAny_bind (wpAny_pure (wpAny_pure (wpAny_pure (wpAny_bind ?_))))
    unfold asStr?
    refine wpAny_bind (wpAny_load hl (wpAny_pure (wpAny_bind (wpAny_rule (wpAny_pure ⟨_, rfl, h⟩)))))
theorem dict_eq_no_str (b : Str) (u : Tok) (l : Addr) (o : Obj) (es : Array DictEntry) (n : Nat) (hc : o.cls = .type "dict") (hd : o.data = .dict es n) : Meets (Builtin.«dict.__eq__» { pos := [.ref l, .str b u] }) fun _ R s => s.heap.get? l = some o ∧ R (.ok (.ret .notImplemented)) s :=
  Meets.of_wp fun prog w A R s h => by
    obtain ⟨hp, g, d, tk, os⟩ := s
    obtain ⟨hl, h⟩ := h
    obtain ⟨cls, dd, dat, sl⟩ := o
    cases hc
    cases hd
    unfold Builtin.«dict.__eq__»
    refine wpAny_bind ?_
    unfold Builtin.Dict.dictSlotArgs
    refine wpAny_bind ?_
    unfold Builtin.Dict.notOrdered
    refine wpAny_ite_false rfl (wpAny_pure (wpAny_bind ?_))
    unfold slotArgs
    refine wpAny_ite_false rfl (wpAny_ite_false rfl (wpAny_pure (wpAny_pure (wpAny_bind ?_))))
    unfold isInstance
    refine wpAny_bind (wpAny_pure (wpAny_of_eq sub_str_dict (wpAny_ite_true rfl (wpAny_bind (wpAny_rule (wpAny_pure ⟨_, rfl, h⟩))))))
theorem rc_str_dict {A : Around} {s : Shared} {l : Addr} {o : Obj} {es : Array DictEntry} {n : Nat} (b : Str) (u : Tok) (ho : s.heap.get? l = some o) (hc : o.cls = .type "dict") (hd : o.data = .dict es n) (hu : A.units < cLine) : SeqAt.RcAt A s (.str b u) (.ref l) false := fun prog w E Q h =>
  SeqAt.rc_eq_decline_or (typeIs_str s b u) ⟨o, ho, hc⟩ (by decide) sub_dict_str F.slot_str_eq F.slot_dict_eq_refl
    (fun _ hq => call_meets F.slot_str_eq (typeIs_str s b u) F.entry_str_eq (F.args_str_eq_2 _ _) (str_eq_no_dict b u l o es n hc hd) ⟨ho, hq⟩)
    (fun _ hq => call_meets F.slot_dict_eq_refl ⟨o, ho, hc⟩ F.entry_dict_eq (F.args_dict_eq_2 _ _) (dict_eq_no_str b u l o es n hc hd) ⟨ho, hq⟩)
    (fun _ hq => wpAny_of_eq rfl hq) (.inr hu) h
theorem eqAt_str_dict {A : Around} {s : Shared} {l : Addr} {o : Obj} {es : Array DictEntry} {n : Nat} (b : Str) (u : Tok) (ho : s.heap.get? l = some o) (hc : o.cls = .type "dict") (hd : o.data = .dict es n) (hu : A.units < cLine) : SeqAt.EqAt A s (.str b u) (.ref l) false := fun prog w E Q h =>
  wpAny_holding (wpAny_ite_split (fun e => absurd (eq_of_beq e) (fun a => nomatch a)) fun _ => wpAny_bind (rc_str_dict b u ho hc hd hu prog w E (fun a s' => wpAny (model prog w) A (truthOfDropped a) Q E s') (wpAny_truthy_bool h)))
end Dl
namespace Dl
open PySem PySem.Spec PyProof.Rows L2 Rt
theorem sub_int_dict : isSubtype (.type "int") (.type "dict") = pure false := by rw [isSubtype_type]; rfl
theorem sub_bool_dict : isSubtype (.type "bool") (.type "dict") = pure false := by rw [isSubtype_type]; rfl
theorem sub_none_dict : isSubtype (.type "NoneType") (.type "dict") = pure false := by rw [isSubtype_type]; rfl
theorem sub_list_dict : isSubtype (.type "list") (.type "dict") = pure false := by rw [isSubtype_type]; rfl
theorem sub_tuple_dict : isSubtype (.type "tuple") (.type "dict") = pure false := by rw [isSubtype_type]; rfl
theorem sub_dict_int : isSubtype (.type "dict") (.type "int") = pure false := by rw [isSubtype_type]; rfl
theorem sub_dict_bool : isSubtype (.type "dict") (.type "bool") = pure false := by rw [isSubtype_type]; rfl
theorem sub_dict_none : isSubtype (.type "dict") (.type "NoneType") = pure false := by rw [isSubtype_type]; rfl
theorem sub_dict_list : isSubtype (.type "dict") (.type "list") = pure false := by rw [isSubtype_type]; rfl
theorem sub_dict_tuple : isSubtype (.type "dict") (.type "tuple") = pure false := by rw [isSubtype_type]; rfl
theorem dict_eq_no {x : Value} {T : String} (hT : isSubtype (.type T) (.type "dict") = pure false) (l : Addr) : Meets (Builtin.«dict.__eq__» { pos := [.ref l, x] }) fun _ R s => s.TypeIs x T ∧ R (.ok (.ret .notImplemented)) s :=
  Meets.of_wp fun prog w A R s h => by
    obtain ⟨hl, h⟩ := h
    unfold Builtin.«dict.__eq__»
    refine wpAny_bind ?_
    unfold Builtin.Dict.dictSlotArgs
    refine wpAny_bind ?_
    unfold Builtin.Dict.notOrdered
    refine wpAny_ite_false rfl (wpAny_pure (wpAny_bind ?_))
    unfold slotArgs
    refine wpAny_ite_false rfl (wpAny_ite_false rfl (wpAny_pure (wpAny_pure (wpAny_bind ?_))))
    unfold isInstance
    refine wpAny_bind (wpAny_typeOf hl (wpAny_of_eq hT (wpAny_ite_true rfl (wpAny_bind (wpAny_rule (wpAny_pure ⟨_, rfl, h⟩))))))
theorem list_eq_no (l q : Addr) (o : Obj) (hc : o.cls = .type "dict") : Meets (Builtin.«list.__eq__» { pos := [.ref q, .ref l] }) fun _ R s => s.heap.get? l = some o ∧ R (.ok (.ret .notImplemented)) s :=
  Meets.of_wp fun prog w A R s h => by
    obtain ⟨hl, h⟩ := h
    have hl : s.TypeIs (.ref l) "dict" := ⟨o, hl, hc⟩
    unfold Builtin.«list.__eq__»
    refine wpAny_bind ?_
    unfold slotArgs
    refine wpAny_ite_false rfl (wpAny_ite_false rfl (wpAny_pure (wpAny_bind ?_)))
    unfold isInstance
    exact wpAny_bind (wpAny_typeOf hl (wpAny_of_eq sub_dict_list (wpAny_ite_true rfl (wpAny_pure ⟨_, rfl, h⟩))))
theorem tuple_eq_no (l q : Addr) (o : Obj) (hc : o.cls = .type "dict") : Meets (Builtin.«tuple.__eq__» { pos := [.ref q, .ref l] }) fun _ R s => s.heap.get? l = some o ∧ R (.ok (.ret .notImplemented)) s :=
  Meets.of_wp fun prog w A R s h => by
    obtain ⟨hl, h⟩ := h
    have hl : s.TypeIs (.ref l) "dict" := ⟨o, hl, hc⟩
    unfold Builtin.«tuple.__eq__»
    refine wpAny_bind ?_
    unfold slotArgs
    refine wpAny_ite_false rfl (wpAny_ite_false rfl (wpAny_pure (wpAny_bind ?_)))
    unfold isInstance
    exact wpAny_bind (wpAny_typeOf hl (wpAny_of_eq sub_dict_tuple (wpAny_ite_true rfl (wpAny_pure ⟨_, rfl, h⟩))))
theorem int_eq_no (i : Int) (t : Tok) (l : Addr) (o : Obj) (es : Array DictEntry) (n : Nat) (hd : o.data = .dict es n) : Meets (Builtin.«int.__eq__» { pos := [.int i t, .ref l] }) fun _ R s => s.heap.get? l = some o ∧ R (.ok (.ret .notImplemented)) s :=
  Meets.of_wp fun prog w A R s h => by
    obtain ⟨hp, g, d, tk, os⟩ := s
    obtain ⟨hl, h⟩ := h
    obtain ⟨cls, dd, dat, sl⟩ := o
    cases hd
    unfold Builtin.«int.__eq__»
    refine wpAny_bind ?_
    unfold slotArgs
    refine wpAny_ite_false rfl (wpAny_ite_false rfl (wpAny_pure (wpAny_bind ?_)))
    unfold Builtin.Int.intOfSelf
    refine wpAny_bind (wpAny_pure (wpAny_pure (wpAny_bind ?_)))
    unfold asInt?
    exact wpAny_bind (wpAny_load hl (wpAny_pure (wpAny_bind (wpAny_rule (wpAny_pure ⟨_, rfl, h⟩)))))
theorem bool_eq_no (i : Bool) (l : Addr) (o : Obj) (es : Array DictEntry) (n : Nat) (hd : o.data = .dict es n) : Meets (Builtin.«int.__eq__» { pos := [.bool i, .ref l] }) fun _ R s => s.heap.get? l = some o ∧ R (.ok (.ret .notImplemented)) s :=
  Meets.of_wp fun prog w A R s h => by
    obtain ⟨hp, g, d, tk, os⟩ := s
    obtain ⟨hl, h⟩ := h
    obtain ⟨cls, dd, dat, sl⟩ := o
    cases hd
    unfold Builtin.«int.__eq__»
    refine wpAny_bind ?_
    unfold slotArgs
    refine wpAny_ite_false rfl (wpAny_ite_false rfl (wpAny_pure (wpAny_bind ?_)))
    unfold Builtin.Int.intOfSelf
    refine wpAny_bind (wpAny_pure (wpAny_pure (wpAny_bind ?_)))
    unfold asInt?
    exact wpAny_bind (wpAny_load hl (wpAny_pure (wpAny_bind (wpAny_rule (wpAny_pure ⟨_, rfl, h⟩)))))
end Dl
namespace Dl
open PySem PySem.Spec PyProof.Rows L2 Rt
structure IsDic (s : Shared) (l : Addr) (o : Obj) (es : Array DictEntry) (n : Nat) : Prop where
  get : s.heap.get? l = some o
  cls : o.cls = .type "dict"
  dat : o.data = .dict es n
theorem IsDic.ty {s : Shared} {l : Addr} {o : Obj} {es : Array DictEntry} {n : Nat} (h : IsDic s l o es n) : s.TypeIs (.ref l) "dict" := ⟨o, h.get, h.cls⟩
section
variable {A : Around} {s : Shared} {l : Addr} {o : Obj} {es : Array DictEntry} {n : Nat}
theorem tyL {q : Addr} {items : Array Value} (h : s.heap.IsList q items) : s.TypeIs (.ref q) "list" := by
  obtain ⟨o, g, c, _⟩ := h
  exact ⟨o, g, c⟩
theorem tyT {q : Addr} {items : Array Value} (h : s.heap.IsTuple q items) : s.TypeIs (.ref q) "tuple" := by
  obtain ⟨o, g, c, _⟩ := h
  exact ⟨o, g, c⟩
theorem ne_of_ty {q l : Addr} {T U : String} (h : s.TypeIs (.ref q) T) (k : s.TypeIs (.ref l) U) (n : Value.type T ≠ .type U) : q ≠ l := by
  rintro rfl
  obtain ⟨o, g, c⟩ := h
  obtain ⟨o', g', c'⟩ := k
  rw [g] at g'
  cases g'
  exact n (c.symm.trans c')
theorem isSame_dic {M : Model} {E : Value → Shared → Prop} {q : Addr} {T : String} {Q : Bool → Shared → Prop} (h : IsDic s l o es n) (t : s.TypeIs (.ref q) T) (n' : Value.type T ≠ .type "dict") (hq : Q false s) : wpAny M A (isSame (.ref l) (.ref q)) Q E s := by
  have hne := ne_of_ty h.ty t n'.symm
  obtain ⟨o2, g2, c2⟩ := t
  exact wpAny_isSame_ref_other hne h.get g2 (by rw [h.cls]; decide) hq
theorem dic_isSame {M : Model} {E : Value → Shared → Prop} {q : Addr} {T : String} {Q : Bool → Shared → Prop} (h : IsDic s l o es n) (t : s.TypeIs (.ref q) T) (n' : Value.type T ≠ .type "dict") (hq : Q false s) : wpAny M A (isSame (.ref q) (.ref l)) Q E s := by
  have hne := ne_of_ty t h.ty n'
  obtain ⟨o2, g2, c2⟩ := t
  obtain ⟨g1, c1, d1⟩ := h
  obtain ⟨cls, dd, dat, sl⟩ := o
  cases c1
  cases d1
  obtain ⟨cls, dd, dat, sl⟩ := o2
  cases c2
  unfold isSame
  refine wpAny_ite_false (decide_eq_false fun e => hne (eq_of_beq e)) (wpAny_bind (wpAny_load g2 (wpAny_bind (wpAny_load g1 ?_))))
  split
  · rename_i e _ _
    exact absurd (show Value.type "dict" = Value.type "tuple" from e) (by decide)
  · exact wpAny_pure hq
theorem rc_int_dic (i : Int) (t : Tok) (h : IsDic s l o es n) (hu : A.units < cLine) : SeqAt.RcAt A s (.int i t) (.ref l) false := fun prog w E Q hQ =>
  SeqAt.rc_eq_decline_or (typeIs_int s i t) h.ty (by decide) sub_dict_int F.slot_int_eq F.slot_dict_eq_refl
    (fun _ hq => call_meets F.slot_int_eq (typeIs_int s i t) F.entry_int_eq (F.args_int_eq_2 _ _) (int_eq_no i t l o es n h.dat) ⟨h.get, hq⟩)
    (fun _ hq => call_meets F.slot_dict_eq_refl h.ty F.entry_dict_eq (F.args_dict_eq_2 _ _) (dict_eq_no sub_int_dict l) ⟨(typeIs_int s i t), hq⟩)
    (fun _ hq => wpAny_of_eq rfl hq) (.inr hu) hQ
theorem rc_dic_int (i : Int) (t : Tok) (h : IsDic s l o es n) (hu : A.units < cLine) : SeqAt.RcAt A s (.ref l) (.int i t) false := fun prog w E Q hQ =>
  SeqAt.rc_eq_decline_or h.ty (typeIs_int s i t) (by decide) sub_int_dict F.slot_dict_eq F.slot_int_eq_refl
    (fun _ hq => call_meets F.slot_dict_eq h.ty F.entry_dict_eq (F.args_dict_eq_2 _ _) (dict_eq_no sub_int_dict l) ⟨(typeIs_int s i t), hq⟩)
    (fun _ hq => call_meets F.slot_int_eq_refl (typeIs_int s i t) F.entry_int_eq (F.args_int_eq_2 _ _) (int_eq_no i t l o es n h.dat) ⟨h.get, hq⟩)
    (fun _ hq => wpAny_of_eq rfl hq) (.inr hu) hQ
theorem rc_bool_dic (i : Bool) (h : IsDic s l o es n) (hu : A.units < cLine) : SeqAt.RcAt A s (.bool i) (.ref l) false := fun prog w E Q hQ =>
  SeqAt.rc_eq_decline_or rfl h.ty (by decide) sub_dict_bool F.slot_bool_eq F.slot_dict_eq_refl
    (fun _ hq => call_meets F.slot_bool_eq rfl F.entry_int_eq (F.args_int_eq_2 _ _) (bool_eq_no i l o es n h.dat) ⟨h.get, hq⟩)
    (fun _ hq => call_meets F.slot_dict_eq_refl h.ty F.entry_dict_eq (F.args_dict_eq_2 _ _) (dict_eq_no sub_bool_dict l) ⟨rfl, hq⟩)
    (fun _ hq => wpAny_of_eq rfl hq) (.inr hu) hQ
theorem rc_dic_bool (i : Bool) (h : IsDic s l o es n) (hu : A.units < cLine) : SeqAt.RcAt A s (.ref l) (.bool i) false := fun prog w E Q hQ =>
  SeqAt.rc_eq_decline_or h.ty rfl (by decide) sub_bool_dict F.slot_dict_eq F.slot_bool_eq_refl
    (fun _ hq => call_meets F.slot_dict_eq h.ty F.entry_dict_eq (F.args_dict_eq_2 _ _) (dict_eq_no sub_bool_dict l) ⟨rfl, hq⟩)
    (fun _ hq => call_meets F.slot_bool_eq_refl rfl F.entry_int_eq (F.args_int_eq_2 _ _) (bool_eq_no i l o es n h.dat) ⟨h.get, hq⟩)
    (fun _ hq => wpAny_of_eq rfl hq) (.inr hu) hQ
theorem rc_str_dic (i : Str) (t : Tok) (h : IsDic s l o es n) (hu : A.units < cLine) : SeqAt.RcAt A s (.str i t) (.ref l) false := fun prog w E Q hQ =>
  SeqAt.rc_eq_decline_or (typeIs_str s i t) h.ty (by decide) sub_dict_str F.slot_str_eq F.slot_dict_eq_refl
    (fun _ hq => call_meets F.slot_str_eq (typeIs_str s i t) F.entry_str_eq (F.args_str_eq_2 _ _) (str_eq_no_dict i t l o es n h.cls h.dat) ⟨h.get, hq⟩)
    (fun _ hq => call_meets F.slot_dict_eq_refl h.ty F.entry_dict_eq (F.args_dict_eq_2 _ _) (dict_eq_no sub_str_dict l) ⟨(typeIs_str s i t), hq⟩)
    (fun _ hq => wpAny_of_eq rfl hq) (.inr hu) hQ
theorem rc_dic_str (i : Str) (t : Tok) (h : IsDic s l o es n) (hu : A.units < cLine) : SeqAt.RcAt A s (.ref l) (.str i t) false := fun prog w E Q hQ =>
  SeqAt.rc_eq_decline_or h.ty (typeIs_str s i t) (by decide) sub_str_dict F.slot_dict_eq F.slot_str_eq_refl
    (fun _ hq => call_meets F.slot_dict_eq h.ty F.entry_dict_eq (F.args_dict_eq_2 _ _) (dict_eq_no sub_str_dict l) ⟨(typeIs_str s i t), hq⟩)
    (fun _ hq => call_meets F.slot_str_eq_refl (typeIs_str s i t) F.entry_str_eq (F.args_str_eq_2 _ _) (str_eq_no_dict i t l o es n h.cls h.dat) ⟨h.get, hq⟩)
    (fun _ hq => wpAny_of_eq rfl hq) (.inr hu) hQ
theorem rc_none_dic  (h : IsDic s l o es n) (hu : A.units < cLine) : SeqAt.RcAt A s (.none) (.ref l) false := fun prog w E Q hQ =>
  SeqAt.rc_eq_decline_or rfl h.ty (by decide) sub_dict_none F.slot_NoneType_eq F.slot_dict_eq_refl
    (fun _ hq => call_gives F.slot_NoneType_eq rfl F.entry_NoneType_eq (F.args_NoneType_eq_2 _ _) (SeqAt.NoneType___eq___none_ref_0 l) hq)
    (fun _ hq => call_meets F.slot_dict_eq_refl h.ty F.entry_dict_eq (F.args_dict_eq_2 _ _) (dict_eq_no sub_none_dict l) ⟨rfl, hq⟩)
    (fun _ hq => wpAny_of_eq rfl hq) (.inr hu) hQ
theorem rc_dic_none  (h : IsDic s l o es n) (hu : A.units < cLine) : SeqAt.RcAt A s (.ref l) (.none) false := fun prog w E Q hQ =>
  SeqAt.rc_eq_decline_or h.ty rfl (by decide) sub_none_dict F.slot_dict_eq F.slot_NoneType_eq_refl
    (fun _ hq => call_meets F.slot_dict_eq h.ty F.entry_dict_eq (F.args_dict_eq_2 _ _) (dict_eq_no sub_none_dict l) ⟨rfl, hq⟩)
    (fun _ hq => call_gives F.slot_NoneType_eq_refl rfl F.entry_NoneType_eq (F.args_NoneType_eq_2 _ _) (SeqAt.NoneType___eq___none_ref_0 l) hq)
    (fun _ hq => wpAny_of_eq rfl hq) (.inr hu) hQ
theorem rc_list_dic {q : Addr} {items : Array Value} (hq0 : s.heap.IsList q items) (h : IsDic s l o es n) (hu : A.units < cLine) : SeqAt.RcAt A s (.ref q) (.ref l) false := fun prog w E Q hQ =>
  SeqAt.rc_eq_decline_or (tyL hq0) h.ty (by decide) sub_dict_list F.slot_list_eq F.slot_dict_eq_refl
    (fun _ hq => call_meets F.slot_list_eq (tyL hq0) F.entry_list_eq (F.args_list_eq_2 _ _) (list_eq_no l q o h.cls) ⟨h.get, hq⟩)
    (fun _ hq => call_meets F.slot_dict_eq_refl h.ty F.entry_dict_eq (F.args_dict_eq_2 _ _) (dict_eq_no sub_list_dict l) ⟨(tyL hq0), hq⟩)
    (fun _ hq => dic_isSame h (tyL hq0) (by decide) hq) (.inr hu) hQ
theorem rc_dic_list {q : Addr} {items : Array Value} (hq0 : s.heap.IsList q items) (h : IsDic s l o es n) (hu : A.units < cLine) : SeqAt.RcAt A s (.ref l) (.ref q) false := fun prog w E Q hQ =>
  SeqAt.rc_eq_decline_or h.ty (tyL hq0) (by decide) sub_list_dict F.slot_dict_eq F.slot_list_eq_refl
    (fun _ hq => call_meets F.slot_dict_eq h.ty F.entry_dict_eq (F.args_dict_eq_2 _ _) (dict_eq_no sub_list_dict l) ⟨(tyL hq0), hq⟩)
    (fun _ hq => call_meets F.slot_list_eq_refl (tyL hq0) F.entry_list_eq (F.args_list_eq_2 _ _) (list_eq_no l q o h.cls) ⟨h.get, hq⟩)
    (fun _ hq => isSame_dic h (tyL hq0) (by decide) hq) (.inr hu) hQ
theorem rc_tuple_dic {q : Addr} {items : Array Value} (hq0 : s.heap.IsTuple q items) (h : IsDic s l o es n) (hu : A.units < cLine) : SeqAt.RcAt A s (.ref q) (.ref l) false := fun prog w E Q hQ =>
  SeqAt.rc_eq_decline_or (tyT hq0) h.ty (by decide) sub_dict_tuple F.slot_tuple_eq F.slot_dict_eq_refl
    (fun _ hq => call_meets F.slot_tuple_eq (tyT hq0) F.entry_tuple_eq (F.args_tuple_eq_2 _ _) (tuple_eq_no l q o h.cls) ⟨h.get, hq⟩)
    (fun _ hq => call_meets F.slot_dict_eq_refl h.ty F.entry_dict_eq (F.args_dict_eq_2 _ _) (dict_eq_no sub_tuple_dict l) ⟨(tyT hq0), hq⟩)
    (fun _ hq => dic_isSame h (tyT hq0) (by decide) hq) (.inr hu) hQ
theorem rc_dic_tuple {q : Addr} {items : Array Value} (hq0 : s.heap.IsTuple q items) (h : IsDic s l o es n) (hu : A.units < cLine) : SeqAt.RcAt A s (.ref l) (.ref q) false := fun prog w E Q hQ =>
  SeqAt.rc_eq_decline_or h.ty (tyT hq0) (by decide) sub_tuple_dict F.slot_dict_eq F.slot_tuple_eq_refl
    (fun _ hq => call_meets F.slot_dict_eq h.ty F.entry_dict_eq (F.args_dict_eq_2 _ _) (dict_eq_no sub_tuple_dict l) ⟨(tyT hq0), hq⟩)
    (fun _ hq => call_meets F.slot_tuple_eq_refl (tyT hq0) F.entry_tuple_eq (F.args_tuple_eq_2 _ _) (tuple_eq_no l q o h.cls) ⟨h.get, hq⟩)
    (fun _ hq => isSame_dic h (tyT hq0) (by decide) hq) (.inr hu) hQ
end
end Dl
namespace Dl
open PySem PySem.Spec PyProof.Rows L2 Rt
theorem eqAt_str_any {A : Around} {s : Shared} {x : Value} {d : D} {as : List Addr} (b : Str) (u : Tok) (r : Reads s.heap x d as) (hu : A.units < cLine) : SeqAt.EqAt A s (.str b u) x (PyData.eqv (.str b) d) := by
  cases r with
  | none => exact SeqAt.EqAt.str_none b u
  | bool c => exact SeqAt.EqAt.str_bool b u c
  | int c t => exact SeqAt.EqAt.str_int b u c t
  | str c t => exact SeqAt.EqAt.str_str b u c t
  | list g c e _ => exact SeqAt.EqAt.str_list b u ⟨_, g, c, _, e⟩ hu
  | tuple g c e _ => exact SeqAt.EqAt.str_tuple b u ⟨_, g, c, _, e⟩ hu
  | dict g c e _ _ => exact eqAt_str_dict b u g c e hu
theorem key_reads {h : Heap} {k : Key} {u : Value} (e : keyIs k u = true) : Reads h u (kD k) [] := by
  cases k with
  | inl i =>
    have e : Value.isInt i u = true := e
    cases u <;> try (cases e; done)
    have e2 := eq_of_beq e
    rw [← e2]
    exact .int _ _
  | inr x =>
    have e : Value.isStrOf x u = true := e
    cases u <;> try (cases e; done)
    have e2 := eq_of_beq e
    rw [← e2]
    exact .str _ _
theorem keys_reads {h : Heap} : ∀ {ks : List Key} {us : List Value}, Vals (ks.map kV) us → ReadsAll h us (ks.map kD) []
  | [], _, r => by cases r; exact .nil
  | .inl i :: ks, _, r => by
    cases r with
    | cons r1 r2 =>
      obtain ⟨t, rfl⟩ := r1
      exact .cons (as := []) (.int i t) (keys_reads r2)
  | .inr x :: ks, _, r => by
    cases r with
    | cons r1 r2 =>
      obtain ⟨t, rfl⟩ := r1
      exact .cons (as := []) (.str x t) (keys_reads r2)
theorem dt_reads {P : Program} {w : World} {H : Hp} {h : Heap} (ok : HOk P w H h) {T : HeapKind P w (List Key)} : ∀ {kvs : List (List Key × Int)} {xs : List (List Key × Addr × Value)}, Paired (fun (p : List Key × V) (q : List Key × Addr × Value) => p.1 = q.1 ∧ H q.2.1 = some (.tup (p.1.map kV)) ∧ RelV p.2 q.2.2) (dtV kvs) xs → ReadsAll h (xs.map fun x => (entryOfKey T x).key) ((dtD kvs).map (·.1)) [] ∧ ReadsAll h (xs.map fun x => (entryOfKey T x).val) ((dtD kvs).map (·.2)) []
  | [], _, r => by cases r; exact ⟨.nil, .nil⟩
  | z :: kvs, _, r => by
    cases r with
    | cons r1 r2 =>
      obtain ⟨a1, a2, a3⟩ := r1
      obtain ⟨t1, t2⟩ := dt_reads ok (T := T) r2
      obtain ⟨t, e3⟩ := a3
      obtain ⟨_, its, rv, o, g1, g2, n, g3⟩ := (show ObjOk P w H h _ (.tup _) from ok _ _ a2)
      have hv : Reads h (Value.int z.2 t) (.int z.2) [] := .int _ _
      rw [← e3] at hv
      exact ⟨.cons (as := []) (.tuple g1 g2 g3 (by simpa using keys_reads rv)) t1, .cons (as := []) hv t2⟩
mutual
theorem Rp.reads {X : Cx} {pn : List (Addr × Obj)} {σ : L2.St} {M : Addr → Prop} {H : Hp} {s : Shared} (I : L2.Inv X pn σ H s) : ∀ {v : V} {d : D} {u : Value}, Rp M H v d → RelV v u → ∃ as, Reads s.heap u d as
  | _, _, _, .non, r => by cases r; exact ⟨_, .none⟩
  | _, _, _, .bl b, r => by cases r; exact ⟨_, .bool b⟩
  | _, _, _, .int i, r => by obtain ⟨t, rfl⟩ := r; exact ⟨_, .int i t⟩
  | _, _, _, .str x _, r => by obtain ⟨t, rfl⟩ := r; exact ⟨_, .str x t⟩
  | _, _, _, .tup t n l h, r => by
    cases r
    obtain ⟨its, vi, ⟨o, g, c, k, e⟩, _⟩ := I.tuple t.sq
    obtain ⟨as, ra⟩ := RpAll.reads I h vi
    exact ⟨_, .tuple g c e (by simpa using ra)⟩
  | _, _, _, .lst t n l h, r => by
    cases r
    obtain ⟨_, its, k, vi, g⟩ := I.hok _ _ t
    obtain ⟨as, ra⟩ := RpAll.reads I h vi
    exact ⟨_, .list g rfl rfl (by simpa using ra)⟩
  | _, _, _, .dic e n h, r => by
    cases r
    obtain ⟨_, _, vs, kv, o, es, ep, g, x, dd, _, pr, _⟩ := I.hok _ _ e
    obtain ⟨bs, ra, rb⟩ := RpKV.reads I h kv pr
    exact ⟨_, .dict g x.1 dd ra rb⟩
  | _, _, _, .dct e n h, r => by
    cases r
    subst h
    obtain ⟨_, _, xs, pr, o, es, ep, g, x, dd, el, _⟩ := I.hok _ _ e
    obtain ⟨ra, rb⟩ := dt_reads I.hok (T := tupleKind (mixKind X.prog X.w)) pr
    exact ⟨_, .dict (as := []) (bs := []) g x.1 dd (by rw [el, List.map_map]; exact ra) (by rw [el, List.map_map]; exact rb)⟩
theorem RpKV.reads {X : Cx} {pn : List (Addr × Obj)} {σ : L2.St} {M : Addr → Prop} {H : Hp} {s : Shared} (I : L2.Inv X pn σ H s) : ∀ {kvs : List (Key × V)} {es : List (D × D)} {us : List (Key × Value)} {el : List DictEntry}, RpKV M H kvs es → KV kvs us → Pairs (mixKind X.prog X.w) el us → ∃ bs, ReadsAll s.heap (el.map (·.key)) (es.map (·.1)) [] ∧ ReadsAll s.heap (el.map (·.val)) (es.map (·.2)) bs
  | _, _, _, _, .nil, kv, pr => by
    cases kv
    cases pr
    exact ⟨_, .nil, .nil⟩
  | _, _, _, _, .cons h t, kv, pr => by
    cases kv with
    | cons a kv =>
      cases pr with
      | cons k1 k2 pr =>
        obtain ⟨as, ra⟩ := Rp.reads I h a.2
        obtain ⟨bs, r1, r2⟩ := RpKV.reads I t kv pr
        refine ⟨as ++ bs, .cons (as := []) (key_reads (by have e := a.1; dsimp only at e; rw [e]; exact k1)) r1, .cons ?_ r2⟩
        dsimp only
        rw [k2]
        exact ra
theorem RpAll.reads {X : Cx} {pn : List (Addr × Obj)} {σ : L2.St} {M : Addr → Prop} {H : Hp} {s : Shared} (I : L2.Inv X pn σ H s) : ∀ {vs : List V} {ds : List D} {us : List Value}, RpAll M H vs ds → Vals vs us → ∃ as, ReadsAll s.heap us ds as
  | _, _, _, .nil, r => by cases r; exact ⟨_, .nil⟩
  | _, _, _, .cons h t, r => by
    cases r with
    | cons r1 r2 =>
      obtain ⟨as, ra⟩ := Rp.reads I h r1
      obtain ⟨bs, rb⟩ := RpAll.reads I t r2
      exact ⟨_, .cons ra rb⟩
end
end Dl
namespace Dl
open PySem PySem.Spec PyProof.Rows L2 Rt
def isStrD : D → Bool
  | .str _ => true
  | _ => false
def eqS (d : D) : Value → Bool
  | .str b _ => PyData.eqv (.str b) d
  | _ => false
theorem any_strs {M : Addr → Prop} {H : Hp} {d : D} : ∀ {vs : List V} {ds : List D} {us : List Value}, RpAll M H vs ds → Vals vs us → ds.all isStrD = true → us.any (eqS d) = ds.any fun z => PyData.eqv z d
  | _, _, _, .nil, r, _ => by cases r; rfl
  | _, _, _, .cons h t, r, e => by
    cases r with
    | cons r1 r2 =>
      have e := Bool.and_eq_true_iff.mp e
      cases h <;> try (exact absurd e.1 Bool.false_ne_true)
      obtain ⟨tk, rfl⟩ := r1
      exact congrArg _ (any_strs t r2 e.2)
theorem mem_strs {M : Addr → Prop} {H : Hp} : ∀ {vs : List V} {ds : List D} {us : List Value}, RpAll M H vs ds → Vals vs us → ds.all isStrD = true → ∀ y ∈ us, ∃ b t, y = .str b t
  | _, _, _, .nil, r, _ => by cases r; exact fun _ h => nomatch h
  | _, _, _, .cons h t, r, e => by
    cases r with
    | cons r1 r2 =>
      have e := Bool.and_eq_true_iff.mp e
      cases h <;> try (exact absurd e.1 Bool.false_ne_true)
      obtain ⟨tk, rfl⟩ := r1
      intro y hy
      rcases List.mem_cons.mp hy with rfl | hy
      · exact ⟨_, _, rfl⟩
      · exact mem_strs t r2 e.2 y hy
variable {X : Cx}
def inS : D → D → Option D
  | a, .tuple ds => if ds.all isStrD = true then some (.bool (ds.any fun z => PyData.eqv z a)) else none
  | _, _ => none
def ninS : D → D → Option D
  | a, .tuple ds => if ds.all isStrD = true then some (.bool (!ds.any fun z => PyData.eqv z a)) else none
  | _, _ => none
theorem o_inS (hu : X.A.units + 65 < cLine) : OpR X (compareOp .In) (rD inS) := by
  intro pn s σ H x y v u Q I rx ry h
  obtain ⟨M, a, b, d, dm, ra, rb, e, q⟩ := h
  cases rb <;> (try (cases ra <;> cases e; done))
  rename_i xs ds t n l r
  obtain ⟨l2, rfl⟩ := iteS (show (if ds.all isStrD = true then some (PyData.bool (ds.any fun z => PyData.eqv z a)) else none) = some d by cases a <;> exact e)
  cases ry
  obtain ⟨as, r1⟩ := Rp.reads I ra rx
  obtain ⟨its, vi, it, _⟩ := I.tuple t.sq
  refine SeqAt.in_tupleAt (eqS a) it (fun y hy => ?_) ⟨.bl _, H, I, ?_, q _ _ (Same.refl _) (.bl _)⟩
  · obtain ⟨b, tk, rfl⟩ := mem_strs r vi l2 y (by simpa using hy)
    exact eqAt_str_any b tk r1 (show X.A.units + 1 < cLine by omega)
  · show Value.bool _ = Value.bool _
    rw [← any_strs r vi l2]
    simp
theorem o_ninS (hu : X.A.units + 65 < cLine) : OpR X (compareOp .NotIn) (rD ninS) := by
  intro pn s σ H x y v u Q I rx ry h
  obtain ⟨M, a, b, d, dm, ra, rb, e, q⟩ := h
  cases rb <;> (try (cases ra <;> cases e; done))
  rename_i xs ds t n l r
  obtain ⟨l2, rfl⟩ := iteS (show (if ds.all isStrD = true then some (PyData.bool (!ds.any fun z => PyData.eqv z a)) else none) = some d by cases a <;> exact e)
  cases ry
  obtain ⟨as, r1⟩ := Rp.reads I ra rx
  obtain ⟨its, vi, it, _⟩ := I.tuple t.sq
  refine SeqAt.notIn_tupleAt (eqS a) it (fun y hy => ?_) ⟨.bl _, H, I, ?_, q _ _ (Same.refl _) (.bl _)⟩
  · obtain ⟨b, tk, rfl⟩ := mem_strs r vi l2 y (by simpa using hy)
    exact eqAt_str_any b tk r1 (show X.A.units + 1 < cLine by omega)
  · show Value.bool _ = Value.bool _
    rw [← any_strs r vi l2]
    simp
end Dl
namespace Dl
open PySem PySem.Spec PyProof.Rows L2 Rt
variable {X : Cx}
def neT0 : D → D → Option D
  | .tuple ds, .tuple [] => some (.bool (!ds.isEmpty))
  | _, _ => none
theorem o_neT0 (hu : X.A.units + 64 < cLine) : OpR X (compareOp .NotEq) (rD neT0) := by
  intro pn s σ H x y v u Q I rx ry h
  obtain ⟨M, a, b, d, dm, ra, rb, e, q⟩ := h
  cases ra <;> (try (cases rb <;> cases e; done))
  rename_i xs ds t n l r
  cases rb <;> (try (cases e; done))
  rename_i xs2 ds2 t2 n2 l2 r2
  cases r2 <;> (try (cases e; done))
  cases e
  cases rx
  cases ry
  obtain ⟨its, vi, it, _⟩ := I.tuple t.sq
  obtain ⟨its2, vi2, it2, _⟩ := I.tuple t2.sq
  cases vi2
  refine SeqAt.RcNeAt.tuples (e := fun _ => true) it it2 (by omega) (fun j _ h2 => absurd h2 (by simp)) _ _ _ _ ⟨.bl _, H, I, ?_, q _ _ (Same.refl _) (.bl _)⟩
  show Value.bool _ = Value.bool _
  congr 1
  cases r <;> cases vi <;> simp
end Dl
namespace Rt
open PySem PySem.Spec PyProof.Rows L2
section
variable {prog : Program} {w : World} {A : Around} {E : Value → Shared → Prop} {s : Shared}
theorem sa_rev {sl : Addr} {vl vu vk : Value} {n : Nat} {Q : Int × Int × Nat → Shared → Prop} (hs : s.heap.IsSliceOf sl vl vu vk) (pl : IsPart vl none) (pu : IsPart vu none) (pk : IsPart vk (some (-1)))
    (h : Q ((n : Int) - 1, -1, n) s) : wpAny (model prog w) A (Builtin.Slice.sliceApplied (.ref sl) (pure (n : Int))) Q E s := by
  obtain ⟨os, hos, hcs, hds⟩ := id hs
  unfold Builtin.Slice.sliceApplied Builtin.Slice.sliceFields
  refine wpAny_bind (wpAny_bind (wpAny_field hos hds (x := vl) rfl (wpAny_bind (wpAny_field hos hds (x := vu) rfl (wpAny_bind (wpAny_field hos hds (x := vk) rfl (wpAny_pure ?_)))))))
  refine wpAny_bind (HT.slicePart_ pk ?_)
  show wpAny _ _ (if ((-1 : Int) == 0) = true then _ else _) _ _ s
  rw [if_neg (by decide)]
  refine wpAny_bind (HT.slicePart_ pl (wpAny_bind (HT.slicePart_ pu (wpAny_bind (wpAny_pure ?_)))))
  have e1 : Builtin.Slice.sliceAdjust none none (-1) (n : Int) = ((n : Int) - 1, -1) := by
    unfold Builtin.Slice.sliceAdjust
    simp
  have e2 : Builtin.Slice.slicePlaces ((n : Int) - 1) (-1) (-1) = n := by
    unfold Builtin.Slice.slicePlaces
    rw [if_neg (by decide)]
    by_cases hn : (n : Int) - 1 > -1
    · rw [if_pos hn, show (-(-1) : Int) = 1 by decide, Int.ediv_one]
      omega
    · rw [if_neg hn]
      omega
  show wpAny _ _ (match Builtin.Slice.sliceAdjust none none (-1) (n : Int) with | (lo, hi) => pure (lo, (-1 : Int), Builtin.Slice.slicePlaces lo hi (-1))) _ _ s
  rw [e1]
  show wpAny _ _ (pure ((n : Int) - 1, (-1 : Int), Builtin.Slice.slicePlaces ((n : Int) - 1) (-1) (-1))) _ _ s
  rw [e2]
  exact wpAny_pure h
theorem fm_congr {α β : Type} {f g : α → Option β} : ∀ {l : List α}, (∀ x ∈ l, f x = g x) → l.filterMap f = l.filterMap g
  | [], _ => rfl
  | a :: r, h => by
    rw [List.filterMap_cons, List.filterMap_cons, h a List.mem_cons_self, fm_congr fun x hx => h x (List.mem_cons_of_mem _ hx)]
theorem pick_rev (xs : Array Value) : ((List.range xs.size).filterMap fun (m : Nat) => xs[(((xs.size : Int) - 1) + (m : Int) * (-1)).toNat]?).toArray = xs.toList.reverse.toArray := by
  congr 1
  have e : (List.range xs.size).filterMap (fun (m : Nat) => xs[(((xs.size : Int) - 1) + (m : Int) * (-1)).toNat]?) = (List.range xs.size).filterMap (fun (m : Nat) => xs.toList.reverse[m]?) := by
    refine fm_congr fun m hm => ?_
    have hm := List.mem_range.mp hm
    have e2 : (((xs.size : Int) - 1) + (m : Int) * (-1)).toNat = xs.size - 1 - m := by omega
    rw [e2, List.getElem?_reverse (by rw [Array.length_toList]; exact hm), Array.length_toList, Array.getElem?_toList]
  rw [e]
  have g : ∀ l : List Value, (List.range l.length).filterMap (fun m => l[m]?) = l := by
    intro l
    induction l with
    | nil => rfl
    | cons a r ih =>
      rw [List.length_cons, List.range_succ_eq_map, List.filterMap_cons]
      simp only [List.getElem?_cons_zero, List.filterMap_map]
      congr 1
  have := g xs.toList.reverse
  rwa [List.length_reverse, Array.length_toList] at this
theorem item_rev {t sl : Addr} {items : Array Value} {vl vu vk : Value} {Q : Value → Shared → Prop} (ht : IsTup s.heap t items) (hs : s.heap.IsSliceOf sl vl vu vk) (pl : IsPart vl none) (pu : IsPart vu none) (pk : IsPart vk (some (-1)))
    (h : Q (.ref s.heap.objs.size) { s with heap := s.heap.push { cls := .type "tuple", data := .seq items.toList.reverse.toArray } })
    (hsz : items.size ≤ sizeLine) : wpAny (model prog w) A (getItem (.ref t) (.ref sl)) Q E s := by
  have htk : sizeOk (.seq items.toList.reverse.toArray) := by
    show items.toList.reverse.toArray.size ≤ sizeLine
    rw [List.size_toArray, List.length_reverse, Array.length_toList]
    exact hsz
  obtain ⟨os, hos, hcs, hds⟩ := id hs
  have hT2 : s.TypeIs (.ref sl) "slice" := ⟨os, hos, hcs⟩
  unfold getItem
  try with_reducible refine wpAny_holding ?_
  first | refine wpAny_bind (wpAny_pure ?_) | skip
  refine wpAny_bind (wpAny_sequenceKey ht.typeIs (by decide) ?_)
  refine wpAny_bind (wpAny_callSpecial?_slot (name := Str.ofString "__getitem__") ht.typeIs PyProof.Rows.slot_tuple_getitem (wpAny_call_entry PyProof.Rows.slot_tuple_getitem ht.typeIs entry_tuple_getitem ?_ (args_tuple_getitem _ _)))
  show wpAny _ _ (Builtin.Tuple.tupleItemsOf (.ref t) >>= _) _ _ s
  refine wpAny_bind (tupleItemsOf_ ht (wpAny_bind (wpAny_typeOf hT2 ?_)))
  rw [if_pos (by decide)]
  refine wpAny_bind (sa_rev (n := items.size) hs pl pu pk ?_)
  have hno : ¬ ((((items.size : Int) - 1) == 0 && (-1 : Int) == 1 && items.size == items.size) = true) := by
    intro z
    rw [Bool.and_eq_true, Bool.and_eq_true] at z
    exact absurd z.1.2 (by decide)
  show wpAny _ _ (if (((items.size : Int) - 1) == 0 && (-1 : Int) == 1 && items.size == items.size) = true then _ else _) _ _ s
  rw [if_neg hno, pick_rev]
  first
    | exact wpAny_bind (m := Builtin.Tuple.tupleExact _) (wpAny_newObj_type (wpAny_pure ⟨_, rfl, wpAny_pure h⟩) htk)
    | exact wpAny_bind (m := Builtin.Tuple.tupleExact _) (wpAny_newObj_type (wpAny_bind (wpAny_pure (wpAny_pure ⟨_, rfl, wpAny_pure h⟩))) htk)
    | exact wpAny_bind (wpAny_bind (m := Builtin.Tuple.tupleExact _) (wpAny_newObj_type (wpAny_pure (wpAny_pure ⟨_, rfl, wpAny_pure h⟩)) htk))
    | exact wpAny_bind (wpAny_bind (m := Builtin.Tuple.tupleExact _) (wpAny_newObj_type (wpAny_pure ⟨_, rfl, wpAny_pure h⟩) htk))
end
section
variable {X : Cx}
def tRevT (K : PySem.W.Frag) (te : TE) : TE := fun σ H Q => te σ H fun x H1 => ∃ a xs, x = .ref a ∧ SqT K H1 a xs ∧ ∀ p, H1 p = none → Q (.ref p) (upd H1 p (.tup xs.reverse))
theorem pe_revT {e : Expr} {te : TE} {k : Nat} {p1 p2 p3 pos : Pos} (he : PE X e te) : PE X (.Subscript e (.Slice none none (some (.UnaryOp .USub (.Constant (.int 1) k p1) p2)) p3) pos) (tRevT X.K te) := by
  refine ⟨fun pn s σ H Q I h => ?_⟩
  refine Subscript_ (thn (he.run pn s σ H _ I h) fun v s1 ⟨x, H1, I1, r1, q1⟩ => ?_)
  obtain ⟨a, xs, ex, hx, q⟩ := q1
  subst ex
  cases r1
  have hst : PO X (some (.UnaryOp .USub (.Constant (.int 1) k p1) p2)) (tPart (tUn (rU fun i => .int (-i)) (tC (.int 1)))) := po_some (pe_un un_neg pe_int)
  refine wpAny_Slice (thn (po_none.run pn s1 σ H1 (fun o H2 => o = none ∧ H2 = H1) I1 ⟨rfl, rfl⟩) fun vl s2 ⟨l, H2, I2, pl, el, e2⟩ => ?_)
  subst el e2
  refine thn (po_none.run pn s2 σ H2 (fun o H3 => o = none ∧ H3 = H2) I2 ⟨rfl, rfl⟩) fun vu s3 ⟨u, H3, I3, pu, eu, e3⟩ => ?_
  subst eu e3
  refine thn (hst.run pn s3 σ H3 (fun o H4 => o = some (-1) ∧ H4 = H3) I3 ⟨1, rfl, -1, rfl, rfl, rfl⟩) fun vs s4 ⟨o, H4, I4, ps, eo, e4⟩ => ?_
  subst eo e4
  have I5 : Inv X pn σ H4 { s4 with heap := s4.heap.push { cls := .type "slice", data := .fields #[vl, vu, vs] } } := I4.kept (t' := s4.toks) fun b ob q => Heap.get?_push_of_some _ q
  obtain ⟨its, r, ht, hz⟩ := I5.tuple hx
  have hlen := r.length
  show wpAny (model X.prog X.w) X.A (subscriptTail e (.Slice none none (some (.UnaryOp .USub (.Constant (.int 1) k p1) p2)) p3) (.ref a) (.ref s4.heap.objs.size)) (EP X pn σ Q) X.xe { s4 with heap := s4.heap.push { cls := .type "slice", data := .fields #[vl, vu, vs] } }
  refine tail_any (ops := [.ref a, .ref s4.heap.objs.size]) ht.typeIs (PyProof.Rows.slot_tuple_getitem.lookup) ?_ (by with_unfolding_all rfl)
  refine item_rev ht (Heap.IsSliceOf.new _ vl vu vs) pl pu ps ?_ (by rw [List.size_toArray]; omega)
  refine ⟨.ref _, _, I5.laid (t' := s4.toks) (o := .tup xs.reverse) (fun b ob q => Heap.get?_push_of_some _ q) (Nat.le_refl _) ?_, rfl, q _ (I5.hok.fresh (Nat.le_refl _))⟩
  exact ⟨by rw [List.length_reverse]; exact hz, _, r.reverse, IsTup.new _ _⟩
end
end Rt
namespace Dl
open PySem PySem.Spec PyProof.Rows L2 Rt
/-! ### data of any sort: texts of true signs, tuples that aren't too long -/
mutual
def gq : D → Bool
  | .str z => PyData.strOk z
  | .tuple ds => decide (ds.length ≤ 1000) && gqAll ds
  | _ => true
def gqAll : List D → Bool
  | [] => true
  | d :: ds => gq d && gqAll ds
end
theorem gqAll.mem : ∀ {ds : List D}, gqAll ds = true → ∀ d ∈ ds, gq d = true
  | [], _ => fun d m => nomatch m
  | x :: xs, h => by
    have h := Bool.and_eq_true_iff.mp (show (gq x && gqAll xs) = true from h)
    intro d m
    rcases List.mem_cons.mp m with e | e
    · rw [e]; exact h.1
    · exact gqAll.mem h.2 d e
theorem gqAll.of : ∀ {ds : List D}, (∀ d ∈ ds, gq d = true) → gqAll ds = true
  | [], _ => rfl
  | x :: xs, h => Bool.and_eq_true_iff.mpr ⟨h x (by simp), gqAll.of fun d m => h d (by simp [m])⟩
theorem gq.two {ds : List D} (h : gq (.tuple ds) = true) : ds.length ≤ 1000 ∧ ∀ d ∈ ds, gq d = true := by
  have h := Bool.and_eq_true_iff.mp (show (decide (ds.length ≤ 1000) && gqAll ds) = true from h)
  exact ⟨of_decide_eq_true h.1, gqAll.mem h.2⟩
theorem gq.tup {ds : List D} (h : gq (.tuple ds) = true) : ∀ d ∈ ds, gq d = true := (gq.two h).2
def okK : D → Bool
  | .tuple ks => ks.all isStrD
  | _ => false
theorem ninS_tup {a : D} {ks : List D} (_h : gq a = true) (k : okK (.tuple ks) = true) : ninS a (.tuple ks) = some (.bool (!ks.any fun z => PyData.eqv z a)) := by
  cases a <;> exact if_pos k
theorem inS_tup {a : D} {ks : List D} (_h : gq a = true) (k : okK (.tuple ks) = true) : inS a (.tuple ks) = some (.bool (ks.any fun z => PyData.eqv z a)) := by
  cases a <;> exact if_pos k
section
variable {X : Cx}
/-- a list beside [] -/
def neL0 : D → D → Option D
  | .list ds, .list [] => some (.bool (!ds.isEmpty))
  | _, _ => none
theorem o_neL0 (hu : X.A.units + 64 < cLine) : OpR X (compareOp .NotEq) (rD neL0) := by
  intro pn s σ H x y v u Q I rx ry h
  obtain ⟨M, a, b, d, dm, ra, rb, e, q⟩ := h
  cases ra <;> (try (cases rb <;> cases e; done))
  rename_i xs ds t n l r
  cases rb <;> (try (cases e; done))
  rename_i xs2 ds2 t2 n2 l2 r2
  cases r2 <;> (try (cases e; done))
  cases e
  cases rx
  cases ry
  obtain ⟨_, its, k, vi, g⟩ := I.hok _ _ t
  obtain ⟨_, its2, k2, vi2, g2⟩ := I.hok _ _ t2
  cases vi2
  cases r with
  | nil =>
    cases vi
    refine SeqAt.RcNeAt.lists (e := fun _ => true) ⟨_, g, rfl, _, rfl⟩ ⟨_, g2, rfl, _, rfl⟩ rfl (by omega) (fun j h1 _ => absurd h1 (by simp)) _ _ _ _ ⟨.bl _, H, I, ?_, q _ _ (Same.refl _) (.bl _)⟩
    show Value.bool _ = Value.bool _
    simp
  | cons h1 h2 =>
    cases vi
    refine SeqAt.RcNeAt.lists_lengths ⟨_, g, rfl, _, rfl⟩ ⟨_, g2, rfl, _, rfl⟩ (by simp) (by omega) _ _ _ _ ⟨.bl _, H, I, ?_, q _ _ (Same.refl _) (.bl _)⟩
    rfl
/-- truths among numbers -/
def addX : D → D → Option D
  | .bool a, .int j => some (.int ((if a = true then (1 : Int) else 0) + j))
  | a, b => addD a b
def subX : D → D → Option D
  | .bool a, .int j => some (.int ((if a = true then (1 : Int) else 0) - j))
  | a, b => subD a b
theorem o_addX : OpR X (binaryOp .Add) (rD addX) := by
  intro pn s σ H x y v u Q I rx ry h
  obtain ⟨M, a, b, d, dm, ra, rb, e, q⟩ := h
  by_cases hb : ∃ k j, a = .bool k ∧ b = .int j
  · obtain ⟨k, j, rfl, rfl⟩ := hb
    cases e
    cases ra
    cases rb
    cases rx
    obtain ⟨t, rfl⟩ := ry
    exact PySem.IntBool.add_bool_int ⟨.int _, H, I.tok _, ⟨_, rfl⟩, q _ _ (Same.refl _) (.int _)⟩
  · refine o_add pn s σ H _ _ v u Q I rx ry ⟨M, a, b, d, dm, ra, rb, ?_, q⟩
    unfold addX at e
    split at e
    · exact (hb ⟨_, _, rfl, rfl⟩).elim
    · exact e
theorem o_subX : OpR X (binaryOp .Sub) (rD subX) := by
  intro pn s σ H x y v u Q I rx ry h
  obtain ⟨M, a, b, d, dm, ra, rb, e, q⟩ := h
  by_cases hb : ∃ k j, a = .bool k ∧ b = .int j
  · obtain ⟨k, j, rfl, rfl⟩ := hb
    cases e
    cases ra
    cases rb
    cases rx
    obtain ⟨t, rfl⟩ := ry
    exact PySem.IntBool.sub_bool_int ⟨.int _, H, I.tok _, ⟨_, rfl⟩, q _ _ (Same.refl _) (.int _)⟩
  · refine o_sub pn s σ H _ _ v u Q I rx ry ⟨M, a, b, d, dm, ra, rb, ?_, q⟩
    unfold subX at e
    split at e
    · exact (hb ⟨_, _, rfl, rfl⟩).elim
    · exact e
/-- slices of texts, too -/
def slX : D → Option Int → Option Int → Option D
  | .str z, lo, hi => some (.str (cutS z lo hi))
  | d, lo, hi => slD d lo hi
def rSlX' : V → Option Int → Option Int → Hp → VK → Prop := fun x lo hi H Q => ∃ M a d, Dom M H ∧ Rp M H x a ∧ slX a lo hi = some d ∧ ∀ v H', Same H H' → Rp M H' v d → Q v H'
theorem s_slX : SlR X rSlX' := by
  intro pn s σ H x v vl vu lo hi sl Q I rx hs pl pu h
  obtain ⟨M, a, d, dm, ra, e, q⟩ := h
  by_cases hz : ∃ z, a = .str z
  · obtain ⟨z, rfl⟩ := hz
    cases e
    cases ra
    rename_i hz
    exact sl_str pn s σ H _ v vl vu lo hi sl Q I rx hs pl pu ⟨z, rfl, hz, q _ _ (Same.refl _) (.str _ (Nat.le_trans (cutS_length _ _ _) hz))⟩
  · refine s_sl pn s σ H _ v vl vu lo hi sl Q I rx hs pl pu ⟨M, a, d, dm, ra, ?_, q⟩
    cases a <;> first | exact e | exact (hz ⟨_, rfl⟩).elim
def eSlX (f : EF) (lo hi : Rho → Option (Option Int)) : EF := fun ρ => (f ρ).bind fun d => (lo ρ).bind fun l => (hi ρ).bind fun h => slX d l h
theorem dE_slX {e : Expr} {lo hi : Option Expr} {pos p2 : Pos} {f : EF} {g h : Rho → Option (Option Int)} {μ : Bool} (he : PE X e (tD μ f)) (hl : PO X lo (tPo g)) (hh : PO X hi (tPo h)) : PE X (.Subscript e (.Slice lo hi none p2) pos) (tD μ (eSlX f g h)) := (pe_slice s_slX he hl hh).wk fun σ H Q q => by
  obtain ⟨M0, H0, ρ, d, R, e, q⟩ := q
  obtain ⟨d1, e1, e⟩ := some_bind e
  obtain ⟨l, el, e⟩ := some_bind e
  obtain ⟨u, eu, e⟩ := some_bind e
  exact ⟨M0, H0, ρ, d1, R, e1, fun v H1 s1 r1 => ⟨M0, H0, ρ, l, R.mono s1, el, fun H2 s2 => ⟨M0, H0, ρ, u, R.mono (s1.trans s2), eu, fun H3 s3 => ⟨_, d1, d, (R.mono ((s1.trans s2).trans s3)).domu μ, r1.mono (.of (s2.trans s3)), e, fun v H4 s4 r4 => q v H4 (((s1.trans s2).trans s3).trans s4) r4⟩⟩⟩⟩
/-- t[::-1] -/
def tRevF (K : PySem.W.Frag) (te : TE) : TE := fun σ H Q => te σ H fun x H1 => ∃ a xs, x = .ref a ∧ SqT K H1 a xs ∧ ∀ p H', H1 p = none → Same H1 H' → TupF H' p xs.reverse → Q (.ref p) H'
theorem pe_revF {e : Expr} {te : TE} {k : Nat} {p1 p2 p3 pos : Pos} (he : PE X e te) : PE X (.Subscript e (.Slice none none (some (.UnaryOp .USub (.Constant (.int 1) k p1) p2)) p3) pos) (tRevF X.K te) := by
  refine ⟨fun pn s σ H Q I h => ?_⟩
  refine Subscript_ (thn (he.run pn s σ H _ I h) fun v s1 ⟨x, H1, I1, r1, q1⟩ => ?_)
  obtain ⟨a, xs, ex, hx, q⟩ := q1
  subst ex
  cases r1
  have hst : PO X (some (.UnaryOp .USub (.Constant (.int 1) k p1) p2)) (tPart (tUn (rU fun i => .int (-i)) (tC (.int 1)))) := po_some (pe_un un_neg pe_int)
  refine wpAny_Slice (thn (po_none.run pn s1 σ H1 (fun o H2 => o = none ∧ H2 = H1) I1 ⟨rfl, rfl⟩) fun vl s2 ⟨l, H2, I2, pl, el, e2⟩ => ?_)
  subst el e2
  refine thn (po_none.run pn s2 σ H2 (fun o H3 => o = none ∧ H3 = H2) I2 ⟨rfl, rfl⟩) fun vu s3 ⟨u, H3, I3, pu, eu, e3⟩ => ?_
  subst eu e3
  refine thn (hst.run pn s3 σ H3 (fun o H4 => o = some (-1) ∧ H4 = H3) I3 ⟨1, rfl, -1, rfl, rfl, rfl⟩) fun vs s4 ⟨o, H4, I4, ps, eo, e4⟩ => ?_
  subst eo e4
  have I5 : Inv X pn σ H4 { s4 with heap := s4.heap.push { cls := .type "slice", data := .fields #[vl, vu, vs] } } := I4.kept (t' := s4.toks) fun b ob q => Heap.get?_push_of_some _ q
  obtain ⟨its, r, ht, hz⟩ := I5.tuple hx
  have hlen := r.length
  show wpAny (model X.prog X.w) X.A (subscriptTail e (.Slice none none (some (.UnaryOp .USub (.Constant (.int 1) k p1) p2)) p3) (.ref a) (.ref s4.heap.objs.size)) (EP X pn σ Q) X.xe { s4 with heap := s4.heap.push { cls := .type "slice", data := .fields #[vl, vu, vs] } }
  refine tail_any (ops := [.ref a, .ref s4.heap.objs.size]) ht.typeIs (PyProof.Rows.slot_tuple_getitem.lookup) ?_ (by with_unfolding_all rfl)
  refine item_rev ht (Heap.IsSliceOf.new _ vl vu vs) pl pu ps ?_ (by rw [List.size_toArray]; omega)
  have fr := I5.hok.fresh (Nat.le_refl _)
  exact ⟨.ref _, _, Inv.tupF I5 r.reverse (by rw [List.length_reverse]; exact hz), rfl, q _ _ fr (smN fr) updF⟩
def revD : D → Option D
  | .tuple ds => some (.tuple ds.reverse)
  | _ => none
theorem RpAll.rev {M : Addr → Prop} {H : Hp} : ∀ {vs : List V} {ds : List D}, RpAll M H vs ds → RpAll M H vs.reverse ds.reverse
  | _, _, .nil => .nil
  | _, _, .cons h t => by rw [List.reverse_cons, List.reverse_cons]; exact t.rev.app (.cons h .nil)
theorem dE_rev {e : Expr} {k : Nat} {p1 p2 p3 pos : Pos} {f : EF} {μ : Bool} (h : PE X e (tD μ f)) : PE X (.Subscript e (.Slice none none (some (.UnaryOp .USub (.Constant (.int 1) k p1) p2)) p3) pos) (tD μ (e1 revD f)) := (pe_revF h).wk fun σ H Q q => by
  obtain ⟨M0, H0, ρ, d, R, e, q⟩ := q
  obtain ⟨d1, e1, e⟩ := some_bind e
  refine ⟨M0, H0, ρ, d1, R, e1, fun v H1 s1 r1 => ?_⟩
  cases r1 <;> try (cases e; done)
  rename_i t n l r
  cases e
  exact ⟨_, _, rfl, t.sq, fun p H2 np s2 t2 => q _ H2 (s1.trans s2) (.tup t2 (((R.mono s1).domu μ).not np) (by rw [List.length_reverse]; exact l) (r.rev.mono (.of s2)))⟩
/-- {} -/
theorem dE_dic0 {pos : Pos} {μ : Bool} : PE X (.Dict [] [] pos) (tD μ (eC (.dict []))) := pe_dnewK.wk fun σ H Q q => by
  obtain ⟨M0, H0, ρ, d, R, e, q⟩ := q
  cases e
  exact fun p np => q _ _ (smN np) (.dic upd_same ((R.domu μ).not np) .nil)
/-! ### shown -/
mutual
theorem Rp.readsN {X : Cx} {pn : List (Addr × Obj)} {σ : L2.St} {M : Addr → Prop} {H : Hp} {s : Shared} (I : L2.Inv X pn σ H s) (hB : ∃ o, X.base.get? sysModules = some o) : ∀ {v : V} {d : D} {u : Value}, Rp M H v d → RelV v u → ∃ as, Reads s.heap u d as ∧ sysModules ∉ as
  | _, _, _, .non, r => by cases r; exact ⟨_, .none, by simp⟩
  | _, _, _, .bl b, r => by cases r; exact ⟨_, .bool b, by simp⟩
  | _, _, _, .int i, r => by obtain ⟨t, rfl⟩ := r; exact ⟨_, .int i t, by simp⟩
  | _, _, _, .str x _, r => by obtain ⟨t, rfl⟩ := r; exact ⟨_, .str x t, by simp⟩
  | _, _, _, .tup t n l h, r => by
    cases r
    obtain ⟨its, vi, ⟨o, g, c, k, e⟩, _⟩ := I.tuple t.sq
    obtain ⟨as, ra, na⟩ := RpAll.readsN I hB h vi
    exact ⟨_, .tuple g c e (by simpa using ra), na⟩
  | _, _, _, .lst t n l h, r => by
    cases r
    obtain ⟨_, its, k, vi, g⟩ := I.hok _ _ t
    obtain ⟨as, ra, na⟩ := RpAll.readsN I hB h vi
    refine ⟨_, .list g rfl rfl (by simpa using ra), fun m => ?_⟩
    rcases List.mem_cons.mp m with z | z
    · obtain ⟨o, hB⟩ := hB
      have := (I.bs _ _ hB).2
      rw [z, t] at this
      cases this
    · exact na z
  | _, _, _, .dic e n h, r => by
    cases r
    have hs := (dk_of I.hok e).2.1
    obtain ⟨_, _, vs, kv, o, es, ep, g, x, dd, _, pr, _⟩ := I.hok _ _ e
    obtain ⟨bs, ra, rb, nb⟩ := RpKV.readsN I hB h kv pr
    exact ⟨_, .dict g x.1 dd ra rb, fun m => by
      rcases List.mem_append.mp m with m | m
      · rcases List.mem_cons.mp m with z | z
        · exact beq_eq_false_iff_ne.mp hs z.symm
        · cases z
      · exact nb m⟩
  | _, _, _, .dct e n h, r => by
    cases r
    subst h
    have hs := (dt_of I.hok e).2.1
    obtain ⟨_, _, xs, pr, o, es, ep, g, x, dd, el, _⟩ := I.hok _ _ e
    obtain ⟨ra, rb⟩ := dt_reads I.hok (T := tupleKind (mixKind X.prog X.w)) pr
    exact ⟨_, .dict (as := []) (bs := []) g x.1 dd (by rw [el, List.map_map]; exact ra) (by rw [el, List.map_map]; exact rb), fun m => by
      rcases List.mem_cons.mp m with z | z
      · exact beq_eq_false_iff_ne.mp hs z.symm
      · cases z⟩
theorem RpKV.readsN {X : Cx} {pn : List (Addr × Obj)} {σ : L2.St} {M : Addr → Prop} {H : Hp} {s : Shared} (I : L2.Inv X pn σ H s) (hB : ∃ o, X.base.get? sysModules = some o) : ∀ {kvs : List (Key × V)} {es : List (D × D)} {us : List (Key × Value)} {el : List DictEntry}, RpKV M H kvs es → KV kvs us → Pairs (mixKind X.prog X.w) el us → ∃ bs, ReadsAll s.heap (el.map (·.key)) (es.map (·.1)) [] ∧ ReadsAll s.heap (el.map (·.val)) (es.map (·.2)) bs ∧ sysModules ∉ bs
  | _, _, _, _, .nil, kv, pr => by
    cases kv
    cases pr
    exact ⟨_, .nil, .nil, by simp⟩
  | _, _, _, _, .cons h t, kv, pr => by
    cases kv with
    | cons a kv =>
      cases pr with
      | cons k1 k2 pr =>
        obtain ⟨as, ra, na⟩ := Rp.readsN I hB h a.2
        obtain ⟨bs, r1, r2, nb⟩ := RpKV.readsN I hB t kv pr
        refine ⟨as ++ bs, .cons (as := []) (key_reads (by have e := a.1; dsimp only at e; rw [e]; exact k1)) r1, .cons ?_ r2, by simp [na, nb]⟩
        dsimp only
        rw [k2]
        exact ra
theorem RpAll.readsN {X : Cx} {pn : List (Addr × Obj)} {σ : L2.St} {M : Addr → Prop} {H : Hp} {s : Shared} (I : L2.Inv X pn σ H s) (hB : ∃ o, X.base.get? sysModules = some o) : ∀ {vs : List V} {ds : List D} {us : List Value}, RpAll M H vs ds → Vals vs us → ∃ as, ReadsAll s.heap us ds as ∧ sysModules ∉ as
  | _, _, _, .nil, r => by cases r; exact ⟨_, .nil, by simp⟩
  | _, _, _, .cons h t, r => by
    cases r with
    | cons r1 r2 =>
      obtain ⟨as, ra, na⟩ := Rp.readsN I hB h r1
      obtain ⟨bs, rb, nb⟩ := RpAll.readsN I hB t r2
      exact ⟨_, .cons ra rb, by simp [na, nb]⟩
end
def reprD : List D → Option D
  | [d] => if d.showable = true ∧ d.depth ≤ 60 ∧ d.shown.length ≤ sizeLine then some (.str d.shown) else none
  | _ => none
theorem c_repr (free : X.A.guards = some []) (hB : ∃ o, X.base.get? sysModules = some o) (hu : X.A.units + 64 < cLine) : CallR X (.builtin "repr") (rC reprD) := by
  intro pn s σ H xs us Q I r h
  obtain ⟨M, ds, d, dm, ra, e, q⟩ := h
  match ds, ra, e with
  | [], _, e => cases e
  | [x], .cons rx .nil, e =>
    obtain ⟨u, rfl, r1⟩ := vals1 r
    obtain ⟨⟨l1, l2, l3⟩, rfl⟩ := iteS e
    obtain ⟨as, rd, na⟩ := Rp.readsN I hB rx r1
    have fin : ∀ (h' : Heap) (u : Tok) (tk : Tok), (∀ b o, s.heap.get? b = some o → h'.get? b = some o) → EP X pn σ Q (.str x.shown u) { s with heap := h', toks := tk } := fun h' u tk hk => ⟨.str _, H, I.kept hk, ⟨_, rfl⟩, q _ _ (Same.refl _) (.str _ l3)⟩
    cases rd with
    | none => exact PySem.P.repr_of_none (fin s.heap _ _ fun _ _ e => e)
    | bool b => exact PySem.P.repr_of_bool (by cases b <;> exact fin s.heap _ _ fun _ _ e => e)
    | int i t => exact PySem.P.repr_of_int (of_decide_eq_true l1) (fin s.heap _ _ fun _ _ e => e)
    | str z t => exact PySem.P.repr_of_str (fin s.heap _ _ fun _ _ e => e) l3
    | list a b c d => exact repr_of_reads' (.list a b c d) l1 (fun _ => na) free (by omega) (fun _ _ e => e) fin l3
    | tuple a b c d => exact repr_of_reads' (.tuple a b c d) l1 (fun _ => na) free (by omega) (fun _ _ e => e) fin l3
    | dict a b c d f => exact repr_of_reads' (.dict a b c d f) l1 (fun _ => na) free (by omega) (fun _ _ e => e) fin l3
  | _ :: _ :: _, _, e => cases e
end
end Dl
namespace Dl
open PySem PySem.Spec PyProof.Rows L2 Rt
theorem str_ne_no_dict (b : Str) (u : Tok) (l : Addr) (o : Obj) (es : Array DictEntry) (n : Nat) (hc : o.cls = .type "dict") (hd : o.data = .dict es n) : Meets (Builtin.«str.__ne__» { pos := [.str b u, .ref l] }) fun _ R s => s.heap.get? l = some o ∧ R (.ok (.ret .notImplemented)) s :=
  Meets.of_wp fun prog w A R s h => by
    obtain ⟨hp, g, d, tk, os⟩ := s
    obtain ⟨hl, h⟩ := h
    obtain ⟨cls, dd, dat, sl⟩ := o
    cases hc
    cases hd
    unfold Builtin.«str.__ne__»
    refine wpAny_bind (wpAny_bind ?_)
    unfold slotArgs
    refine wpAny_ite_false rfl (wpAny_ite_false rfl (wpAny_pure (wpAny_bind ?_)))
    unfold Builtin.Str.textOf
    refine wpAny_bind (wpAny_pure (wpAny_pure (wpAny_pure (wpAny_bind ?_))))
    unfold asStr?
    refine wpAny_bind (wpAny_load hl (wpAny_pure (wpAny_bind (wpAny_rule (wpAny_pure ⟨_, rfl, h⟩)))))
theorem dict_ne_no {x : Value} {T : String} (hT : isSubtype (.type T) (.type "dict") = pure false) (l : Addr) : Meets (Builtin.«dict.__ne__» { pos := [.ref l, x] }) fun _ R s => s.TypeIs x T ∧ R (.ok (.ret .notImplemented)) s :=
  Meets.of_wp fun prog w A R s h => by
    obtain ⟨hl, h⟩ := h
    unfold Builtin.«dict.__ne__»
    refine wpAny_bind ?_
    unfold Builtin.Dict.dictSlotArgs
    refine wpAny_bind ?_
    unfold Builtin.Dict.notOrdered
    refine wpAny_ite_false rfl (wpAny_pure (wpAny_bind ?_))
    unfold slotArgs
    refine wpAny_ite_false rfl (wpAny_ite_false rfl (wpAny_pure (wpAny_pure (wpAny_bind ?_))))
    unfold isInstance
    refine wpAny_bind (wpAny_typeOf hl (wpAny_of_eq hT (wpAny_ite_true rfl (wpAny_bind (wpAny_rule (wpAny_pure ⟨_, rfl, h⟩))))))
theorem rcNe_dic_str {A : Around} {s : Shared} {l : Addr} {o : Obj} {es : Array DictEntry} {n : Nat} (i : Str) (t : Tok) (h : IsDic s l o es n) (hu : A.units < cLine) : SeqAt.RcNeAt A s (.ref l) (.str i t) true := fun prog w E Q hQ =>
  SeqAt.rc_ne_decline_or (k := false) h.ty (typeIs_str s i t) (by decide) sub_str_dict F.slot_dict_ne F.slot_str_ne_refl
    (fun _ hq => call_meets F.slot_dict_ne h.ty F.entry_dict_ne (F.args_dict_ne_2 _ _) (dict_ne_no sub_str_dict l) ⟨(typeIs_str s i t), hq⟩)
    (fun _ hq => call_meets F.slot_str_ne_refl (typeIs_str s i t) F.entry_str_ne (F.args_str_ne_2 _ _) (str_ne_no_dict i t l o es n h.cls h.dat) ⟨h.get, hq⟩)
    (fun _ hq => wpAny_of_eq rfl hq) (.inr hu) hQ
theorem rcNe_any_str {A : Around} {s : Shared} {x : Value} {d : D} {as : List Addr} (b : Str) (u : Tok) (r : Reads s.heap x d as) (hu : A.units < cLine) : SeqAt.RcNeAt A s x (.str b u) (!PyData.eqv d (.str b)) := by
  cases r with
  | none => exact SeqAt.RcNeAt.none_str b u
  | bool c => exact SeqAt.RcNeAt.bool_str c b u
  | int c t => exact SeqAt.RcNeAt.int_str c t b u
  | str c t => exact SeqAt.RcNeAt.str_str c t b u
  | list g c e _ => exact SeqAt.RcNeAt.list_str b u ⟨_, g, c, _, e⟩ hu
  | tuple g c e _ => exact SeqAt.RcNeAt.tuple_str b u ⟨_, g, c, _, e⟩ hu
  | dict g c e _ _ => exact rcNe_dic_str b u ⟨g, c, e⟩ hu
section
variable {X : Cx}
/-- anything != a text; else as neD -/
def neQ : D → D → Option D
  | a, .str b => some (.bool (!PyData.eqv a (.str b)))
  | a, b => neD a b
theorem o_neQ (hu : X.A.units + 64 < cLine) : OpR X (compareOp .NotEq) (rD neQ) := by
  intro pn s σ H x y v u Q I rx ry h
  obtain ⟨M, a, b, d, dm, ra, rb, e, q⟩ := h
  by_cases hb : ∃ z, b = .str z
  · obtain ⟨z, rfl⟩ := hb
    cases rb
    have e : some (PyData.bool (!PyData.eqv a (.str z))) = some d := by cases a <;> exact e
    cases e
    obtain ⟨t, rfl⟩ := ry
    obtain ⟨as, r1⟩ := Rp.reads I ra rx
    exact rcNe_any_str z t r1 (by omega) _ _ _ _ ⟨.bl _, H, I, rfl, q _ _ (Same.refl _) (.bl _)⟩
  · refine o_ne hu pn s σ H _ _ v u Q I rx ry ⟨M, a, b, d, dm, ra, rb, ?_, q⟩
    cases b <;> first | exact (hb ⟨_, rfl⟩).elim | (cases a <;> exact e)
end
end Dl
namespace Dl
open PySem PySem.Spec PyProof.Rows L2 Rt
/-! ### going through a body, step by step -/
theorem ev_guard {c : Rho → Option Bool} {e : EF} {g : Rho → Option Out} {ρ : Rho} {b : Bool} {d : D} (hc : c ρ = some b) (he : e ρ = some d) : sSeq (sIf c (sRet e) sNil) g ρ = if b = true then some (.rt d) else g ρ := by
  unfold sSeq sIf
  rw [hc]
  cases b with
  | true =>
    show ((sRet e ρ).bind _) = _
    unfold sRet
    rw [he]
    rfl
  | false => rfl
theorem ev_if {c : Rho → Option Bool} {f h g : Rho → Option Out} {ρ : Rho} {b : Bool} (hc : c ρ = some b) : sSeq (sIf c f h) g ρ = if b = true then sSeq f g ρ else sSeq h g ρ := by
  unfold sSeq sIf
  rw [hc]
  cases b <;> rfl
theorem ev_nil {g : Rho → Option Out} {ρ : Rho} : sSeq sNil g ρ = g ρ := rfl
theorem ev_retS {e : EF} {g : Rho → Option Out} {ρ : Rho} {d : D} (he : e ρ = some d) : sSeq (sRet e) g ρ = some (.rt d) := by
  unfold sSeq sRet
  rw [he]
  rfl
theorem ev_asg {p : Pat} {f : EF} {g : Rho → Option Out} {ρ ρ' : Rho} {d : D} (hf : f ρ = some d) (hb : bindP p d ρ = some ρ') : sSeq (sAsg p f) g ρ = g ρ' := by
  unfold sSeq sAsg
  rw [hf]
  show ((bindP p d ρ).map Out.nx).bind _ = _
  rw [hb]
  rfl
theorem ev_seq {f g : Rho → Option Out} {ρ ρ' : Rho} (hf : f ρ = some (.nx ρ')) : sSeq f g ρ = g ρ' := by
  unfold sSeq
  rw [hf]
  rfl
theorem ev_seqR {f g : Rho → Option Out} {ρ : Rho} {d : D} (hf : f ρ = some (.rt d)) : sSeq f g ρ = some (.rt d) := by
  unfold sSeq
  rw [hf]
  rfl
theorem ev_ret {e : EF} {ρ : Rho} {d : D} (he : e ρ = some d) : sRet e ρ = some (.rt d) := by
  unfold sRet
  rw [he]
  rfl
theorem ev_ifR {c : Rho → Option Bool} {f h : Rho → Option Out} {ρ : Rho} {b : Bool} (hc : c ρ = some b) : sIf c f h ρ = if b = true then f ρ else h ρ := by
  unfold sIf
  rw [hc]
  rfl
/-- a loop whose body tells of each item whether to go on -/
theorem ev_for {p : Pat} {body : Rho → Option Out} {t : D → Option D} (I : Rho → Prop) (hb : ∀ x ρ, I ρ → ∃ ρ1, bindP p x ρ = some ρ1 ∧ ((t x = none ∧ ∃ ρ2, I ρ2 ∧ body ρ1 = some (.nx ρ2)) ∨ ∃ d, t x = some d ∧ body ρ1 = some (.rt d))) :
    ∀ (xs : List D) (ρ : Rho), I ρ → (∃ ρ', I ρ' ∧ xs.findSome? t = none ∧ forGo p body xs ρ = some (.nx ρ')) ∨ ∃ d, xs.findSome? t = some d ∧ forGo p body xs ρ = some (.rt d)
  | [], ρ, i => .inl ⟨ρ, i, rfl, rfl⟩
  | x :: xs, ρ, i => by
    obtain ⟨ρ1, e1, h⟩ := hb x ρ i
    rcases h with ⟨ht, ρ2, i2, e2⟩ | ⟨d, ht, e2⟩
    · rcases ev_for I hb xs ρ2 i2 with ⟨ρ', i', e3, e4⟩ | ⟨d, e3, e4⟩
      · refine .inl ⟨ρ', i', by rw [List.findSome?_cons, ht]; exact e3, ?_⟩
        unfold forGo
        rw [e1]
        show (body ρ1).bind _ = _
        rw [e2]
        exact e4
      · refine .inr ⟨d, by rw [List.findSome?_cons, ht]; exact e3, ?_⟩
        unfold forGo
        rw [e1]
        show (body ρ1).bind _ = _
        rw [e2]
        exact e4
    · refine .inr ⟨d, by rw [List.findSome?_cons, ht], ?_⟩
      unfold forGo
      rw [e1]
      show (body ρ1).bind _ = _
      rw [e2]
      rfl
/-- a comprehension that tells one thing of each item -/
theorem ev_lc {i : Nat} {f : EF} {ρ : Rho} {t : D → D} (hi : i < ρ.length) : ∀ (xs : List D), (∀ x ∈ xs, f (ρ.set i (some (.dat x))) = some (t x)) → lcGo (.nm i) oYes f ρ xs = some (xs.map t)
  | [], _ => rfl
  | x :: xs, h => by
    unfold lcGo bindP
    rw [if_pos hi]
    show (f (ρ.set i (some (.dat x)))).bind _ = _
    rw [h x (by simp)]
    show (lcGo _ _ _ _ xs).map _ = _
    rw [ev_lc hi xs fun y hy => h y (by simp [hy])]
    rfl
/-- .. and picks -/
theorem ev_lcIf {i : Nat} {c : Rho → Option Bool} {f : EF} {ρ : Rho} {k : D → Bool} {t : D → D} (hi : i < ρ.length) : ∀ (xs : List D), (∀ x ∈ xs, c (ρ.set i (some (.dat x))) = some (k x)) → (∀ x ∈ xs, k x = true → f (ρ.set i (some (.dat x))) = some (t x)) → lcGo (.nm i) c f ρ xs = some ((xs.filter k).map t)
  | [], _, _ => rfl
  | x :: xs, h, h2 => by
    unfold lcGo bindP
    rw [if_pos hi]
    show (c (ρ.set i (some (.dat x)))).bind _ = _
    rw [h x (by simp)]
    show (if k x = true then _ else _) = _
    have ih := ev_lcIf hi xs (fun y hy => h y (by simp [hy])) (fun y hy => h2 y (by simp [hy]))
    cases e : k x with
    | true =>
      rw [if_pos rfl, h2 x (by simp) e]
      show (lcGo _ _ _ _ xs).map _ = _
      rw [ih, List.filter_cons_of_pos e]
      rfl
    | false =>
      rw [if_neg (by simp), ih, List.filter_cons_of_neg (by simp [e])]
theorem bools_map {α : Type} (t : α → Bool) : ∀ xs : List α, boolsD (xs.map fun x => .bool (t x)) = some (xs.map t)
  | [] => rfl
  | x :: xs => by
    show (boolsD (xs.map fun x => .bool (t x))).map _ = _
    rw [bools_map t xs]
    rfl
theorem okD_all : ∀ (ds : List D), PyData.canLayAll0 ds = true → PyData.depthAll ds + 1 ≤ 64 → PyData.hasDictAll ds = false → ∀ d ∈ ds, okD d = true
  | [], _, _, _ => fun d m => nomatch m
  | x :: xs, c, dp, hd => by
    have c2 := Bool.and_eq_true_iff.mp (show (x.canLay0 && PyData.canLayAll0 xs) = true from c)
    have hd2 := Bool.or_eq_false_iff.mp (show (x.hasDict || PyData.hasDictAll xs) = false from hd)
    have dp2 : max x.depth (PyData.depthAll xs) + 1 ≤ 64 := dp
    intro d m
    rcases List.mem_cons.mp m with e | e
    · subst e
      unfold okD SeqAt.shaped
      rw [hd2.1, c2.1]
      have : d.depth ≤ 64 := by omega
      simp [this]
    · exact okD_all xs c2.2 (by omega) hd2.2 d e
theorem okD.tup {ds : List D} (h : okD (.tuple ds) = true) : ∀ d ∈ ds, okD d = true := by
  obtain ⟨h1, h2⟩ := okD.parts h
  have h2 := Bool.and_eq_true_iff.mp h2
  exact okD_all ds h2.1 (of_decide_eq_true h2.2) h1
theorem dep_all : ∀ (ds : List D) (n : Nat), PyData.depthAll ds ≤ n → ∀ d ∈ ds, d.depth ≤ n
  | [], _, _ => fun d m => nomatch m
  | x :: xs, n, h => by
    have h : max x.depth (PyData.depthAll xs) ≤ n := h
    intro d m
    rcases List.mem_cons.mp m with e | e
    · subst e; omega
    · exact dep_all xs n (by omega) d e
theorem okD.tupD {ds : List D} (h : okD (.tuple ds) = true) : ∀ d ∈ ds, okD d = true ∧ d.depth ≤ 63 := fun d m => by
  refine ⟨okD.tup h d m, ?_⟩
  obtain ⟨_, h2⟩ := okD.parts h
  have h2 := Bool.and_eq_true_iff.mp h2
  have h3 : PyData.depthAll ds + 1 ≤ 64 := of_decide_eq_true h2.2
  exact dep_all ds 63 (by omega) d m
theorem okAll : ∀ (ds : List D), (∀ d ∈ ds, okD d = true ∧ d.depth ≤ 63) → PyData.canLayAll0 ds = true ∧ PyData.depthAll ds ≤ 63 ∧ PyData.hasDictAll ds = false
  | [], _ => ⟨rfl, Nat.zero_le _, rfl⟩
  | x :: xs, h => by
    obtain ⟨a, b, c⟩ := okAll xs fun d m => h d (by simp [m])
    obtain ⟨o, dx⟩ := h x (by simp)
    obtain ⟨o1, o2⟩ := okD.parts o
    have o2 := Bool.and_eq_true_iff.mp o2
    refine ⟨Bool.and_eq_true_iff.mpr ⟨o2.1, a⟩, ?_, Bool.or_eq_false_iff.mpr ⟨o1, c⟩⟩
    show max x.depth (PyData.depthAll xs) ≤ 63
    omega
theorem okL {ds : List D} (h : ∀ d ∈ ds, okD d = true ∧ d.depth ≤ 63) : okD (.list ds) = true := by
  obtain ⟨a, b, c⟩ := okAll ds h
  unfold okD SeqAt.shaped
  rw [show (PyData.list ds).hasDict = PyData.hasDictAll ds from rfl, c, show (PyData.list ds).canLay0 = PyData.canLayAll0 ds from rfl, a, show (PyData.list ds).depth = PyData.depthAll ds + 1 from rfl]
  have : PyData.depthAll ds + 1 ≤ 64 := by omega
  simp [this]
theorem okT {ds : List D} (h : ∀ d ∈ ds, okD d = true ∧ d.depth ≤ 63) : okD (.tuple ds) = true := by
  obtain ⟨a, b, c⟩ := okAll ds h
  unfold okD SeqAt.shaped
  rw [show (PyData.tuple ds).hasDict = PyData.hasDictAll ds from rfl, c, show (PyData.tuple ds).canLay0 = PyData.canLayAll0 ds from rfl, a, show (PyData.tuple ds).depth = PyData.depthAll ds + 1 from rfl]
  have : PyData.depthAll ds + 1 ≤ 64 := by omega
  simp [this]
theorem ok_int (i : Int) : okD (.int i) = true ∧ (PyData.int i).depth ≤ 63 := ⟨rfl, Nat.zero_le _⟩
theorem ok_nil : okD (.list []) = true := okL fun d m => nomatch m
theorem nin_tup {a : D} {ds : List D} (h : okD a = true) (h2 : okD (.tuple ds) = true) : ninD a (.tuple ds) = some (.bool (!ds.any fun z => PyData.eqv z a)) := by
  cases a <;> simp [ninD, h, h2]
theorem in_tup {a : D} {ds : List D} (h : okD a = true) (h2 : okD (.tuple ds) = true) : inD a (.tuple ds) = some (.bool (ds.any fun z => PyData.eqv z a)) := by
  cases a <;> simp [inD, h, h2]
theorem eq_ok {a b : D} (h : okD a = true) (h2 : okD b = true) : eqD a b = some (.bool (PyData.eqv a b)) := by
  simp [eqD, h, h2]
theorem ne_ok {a b : D} (h : okD a = true) (h2 : okD b = true) : neD a b = some (.bool (!PyData.eqv a b)) := by
  simp [neD, h, h2]
theorem add_tup {a b : List D} (h : a.length + b.length ≤ sizeLine) : addD (.tuple a) (.tuple b) = some (.tuple (a ++ b)) := by
  show (if a.length + b.length ≤ sizeLine then some (PyData.tuple (a ++ b)) else none) = _
  rw [if_pos h]
theorem add_lst {a b : List D} (h : a.length + b.length ≤ sizeLine) : addD (.list a) (.list b) = some (.list (a ++ b)) := by
  show (if a.length + b.length ≤ sizeLine then some (PyData.list (a ++ b)) else none) = _
  rw [if_pos h]
theorem ev_call {n : Nat} {g : List D → Option D} {f : Rho → Option (List D)} {ρ : Rho} {ds : List D} {d : D} (hf : f ρ = some ds) (hl : ds.length = n) (hg : g ds = some d) : eCall (gN n g) f ρ = some d := by
  unfold eCall gN
  rw [hf]
  show (if ds.length = n then g ds else none) = _
  rw [if_pos hl, hg]
theorem ev_and {f g : EF} {ρ : Rho} {b : Bool} {d : D} (hf : f ρ = some (.bool b)) (hg : b = true → g ρ = some d) (h0 : b = false → d = .bool false) : eAnd f g ρ = some d := by
  unfold eAnd
  rw [hf]
  cases b with
  | true => exact hg rfl
  | false => rw [h0 rfl]; rfl
theorem ev_oOr {f g : Rho → Option Bool} {ρ : Rho} {b : Bool} (hf : f ρ = some b) : oOr f g ρ = if b = true then some true else g ρ := by
  unfold oOr
  rw [hf]
  rfl
theorem ev_oAnd {f g : Rho → Option Bool} {ρ : Rho} {b : Bool} (hf : f ρ = some b) : oAnd f g ρ = if b = true then g ρ else some false := by
  unfold oAnd
  rw [hf]
  rfl
theorem ev_not {f : Rho → Option Bool} {ρ : Rho} {b : Bool} (hf : f ρ = some b) : oNot f ρ = some (!b) := by
  unfold oNot
  rw [hf]
  rfl
theorem ev_oB {f : EF} {ρ : Rho} {b : Bool} (hf : f ρ = some (.bool b)) : oB f ρ = some b := by
  unfold oB
  rw [hf]
  rfl
theorem ev_lcE {μ : Bool} {vs : List Nat} {it : Rho → Option (List D)} {p : Pat} {c : Rho → Option Bool} {f : EF} {ρ : Rho} {items res : List D} (hit : it ρ = some items) (hl : lcGo p c f (wipeR (shutR μ ρ) vs) items = some res) : eLc μ vs it p c f ρ = some (.list res) := by
  unfold eLc
  rw [hit]
  show (lcGo p c f (wipeR (shutR μ ρ) vs) items).map PyData.list = _
  rw [hl]
  rfl
theorem ev_all {μ : Bool} {vs : List Nat} {it : Rho → Option (List D)} {p : Pat} {c : Rho → Option Bool} {f : EF} {ρ : Rho} {items : List D} {α : Type} {xs : List α} {t : α → Bool} (hit : it ρ = some items) (hl : lcGo p c f (wipeR (shutR μ ρ) vs) items = some (xs.map fun x => .bool (t x))) : eCall allD (aCons (eLc μ vs it p c f) aNil) ρ = some (.bool (xs.all t)) := by
  unfold eCall aCons
  rw [ev_lcE hit hl]
  show (boolsD _).map _ = _
  rw [bools_map]
  show some (PyData.bool _) = _
  rw [List.all_map]
  rfl
theorem ev_any {μ : Bool} {vs : List Nat} {it : Rho → Option (List D)} {p : Pat} {c : Rho → Option Bool} {f : EF} {ρ : Rho} {items : List D} {α : Type} {xs : List α} {t : α → Bool} (hit : it ρ = some items) (hl : lcGo p c f (wipeR (shutR μ ρ) vs) items = some (xs.map fun x => .bool (t x))) : eCall anyD (aCons (eLc μ vs it p c f) aNil) ρ = some (.bool (xs.any t)) := by
  unfold eCall aCons
  rw [ev_lcE hit hl]
  show (boolsD _).map _ = _
  rw [bools_map]
  show some (PyData.bool _) = _
  rw [List.any_map]
  rfl
end Dl
namespace Dl
open PySem PySem.Spec PyProof.Rows L2 Rt
theorem ev_e2 {g : D → D → Option D} {f1 f2 : EF} {ρ : Rho} {a b d : D} (h1 : f1 ρ = some a) (h2 : f2 ρ = some b) (hg : g a b = some d) : e2 g f1 f2 ρ = some d := by
  unfold e2
  rw [h1]
  show (f2 ρ).bind _ = _
  rw [h2]
  exact hg
theorem ev_itG {g : List D → Option (List D)} {f : Rho → Option (List D)} {ρ : Rho} {ds r : List D} (hf : f ρ = some ds) (hg : g ds = some r) : itG g f ρ = some r := by
  unfold itG
  rw [hf]
  exact hg
theorem ran2_ok {i j : Int} (h1 : -(2 ^ 62) ≤ i) (h2 : i < 2 ^ 62) (h3 : -(2 ^ 62) ≤ j) (h4 : j < 2 ^ 62) (h5 : j - i < 2 ^ 20) : ran2D [.int i, .int j] = some (rgD i (j - i).toNat) := if_pos ⟨h1, h2, h3, h4, h5⟩
theorem ran1_ok {j : Int} (h3 : -(2 ^ 62) ≤ j) (h5 : j < 2 ^ 20) : ran1D [.int j] = some (rgD 0 j.toNat) := if_pos ⟨h3, h5⟩
theorem ev_forC {p : Pat} {body : Rho → Option Out} {x : D} {xs : List D} {ρ ρ1 ρ2 : Rho} (e1 : bindP p x ρ = some ρ1) (e2 : body ρ1 = some (.nx ρ2)) : forGo p body (x :: xs) ρ = forGo p body xs ρ2 := by
  show (bindP p x ρ).bind _ = _
  rw [e1]
  show (body ρ1).bind _ = _
  rw [e2]
  rfl
theorem ev_forR {p : Pat} {body : Rho → Option Out} {x : D} {xs : List D} {ρ ρ1 : Rho} {d : D} (e1 : bindP p x ρ = some ρ1) (e2 : body ρ1 = some (.rt d)) : forGo p body (x :: xs) ρ = some (.rt d) := by
  show (bindP p x ρ).bind _ = _
  rw [e1]
  show (body ρ1).bind _ = _
  rw [e2]
  rfl
theorem ev_forS {it : Rho → Option (List D)} {p : Pat} {body : Rho → Option Out} {ρ : Rho} {items : List D} {o : Option Out} (hit : it ρ = some items) (h : forGo p body items ρ = o) : sFor it p body ρ = o := by
  unfold sFor
  rw [hit]
  exact h
end Dl
namespace Dl
open PySem PySem.Spec PyProof.Rows L2 Rt
/-! ### data that is neither deep nor long -/
def Bd (m : Nat) : Nat → D → Prop
  | 0, _ => False
  | n + 1, .tuple ds => ds.length ≤ 70 + m ∧ ∀ d ∈ ds, Bd m n d
  | n + 1, .list ds => ds.length ≤ 70 + m ∧ ∀ d ∈ ds, Bd m n d
  | _ + 1, .dict kvs => kvs = []
  | _ + 1, .int i => i.natAbs ≤ 10 ^ 29 + 100 * m
  | _ + 1, .str z => PyData.strOk z = true ∧ z.length ≤ 20 + 20 * m
  | _ + 1, .none => True
  | _ + 1, .bool _ => True
theorem Bd.up {m m' : Nat} (hm : m ≤ m') : ∀ {n n' : Nat} {d : D}, Bd m n d → n ≤ n' → Bd m' n' d
  | 0, _, _, h, _ => h.elim
  | n + 1, 0, _, _, l => absurd l (by omega)
  | n + 1, n' + 1, .tuple ds, h, l => ⟨Nat.le_trans h.1 (by omega), fun d hd => Bd.up hm (h.2 d hd) (by omega)⟩
  | n + 1, n' + 1, .list ds, h, l => ⟨Nat.le_trans h.1 (by omega), fun d hd => Bd.up hm (h.2 d hd) (by omega)⟩
  | n + 1, n' + 1, .dict kvs, h, l => h
  | n + 1, n' + 1, .int i, h, l => Nat.le_trans (show i.natAbs ≤ 10 ^ 29 + 100 * m from h) (by omega)
  | n + 1, n' + 1, .str z, h, l => ⟨h.1, Nat.le_trans h.2 (by omega)⟩
  | n + 1, n' + 1, .none, h, l => trivial
  | n + 1, n' + 1, .bool _, h, l => trivial
theorem Bd.gq {m : Nat} (hm : m ≤ 100) : ∀ {n : Nat} {d : D}, Bd m n d → Dl.gq d = true
  | 0, _, h => h.elim
  | n + 1, .tuple ds, h => Bool.and_eq_true_iff.mpr ⟨decide_eq_true (Nat.le_trans h.1 (by omega)), gqAll.of fun d hd => Bd.gq hm (h.2 d hd)⟩
  | n + 1, .list ds, h => rfl
  | n + 1, .dict kvs, h => rfl
  | n + 1, .int i, h => rfl
  | n + 1, .str z, h => h.1
  | n + 1, .none, h => rfl
  | n + 1, .bool _, h => rfl
theorem all_show : ∀ {ds : List D}, (∀ d ∈ ds, d.showable = true) → PyData.showableAll ds = true
  | [], _ => rfl
  | d :: r, h => by
    show (d.showable && PyData.showableAll r) = true
    rw [h d (by simp), all_show fun x hx => h x (by simp [hx])]
    rfl
theorem all_depth {k : Nat} : ∀ {ds : List D}, (∀ d ∈ ds, d.depth ≤ k) → PyData.depthAll ds ≤ k
  | [], _ => Nat.zero_le _
  | d :: r, h => Nat.max_le.mpr ⟨h d (by simp), all_depth fun x hx => h x (by simp [hx])⟩
theorem all_leaves {B : Nat} : ∀ {ds : List D}, (∀ d ∈ ds, d.leavesShort B = true) → PyData.leavesShortAll B ds = true
  | [], _ => rfl
  | d :: r, h => by
    show (d.leavesShort B && PyData.leavesShortAll B r) = true
    rw [h d (by simp), all_leaves fun x hx => h x (by simp [hx])]
    rfl
theorem big30 {i : Int} {m : Nat} (hm : m ≤ 100) (h : i.natAbs ≤ 10 ^ 29 + 100 * m) : i.natAbs < 10 ^ 30 :=
  Nat.lt_of_le_of_lt h (Nat.lt_of_le_of_lt (Nat.add_le_add_left (Nat.mul_le_mul_left 100 hm) _) (by decide))
theorem log30 {i : Int} (h : i.natAbs < 10 ^ 30) : i.natAbs.log2 < 100 := by
  by_cases z : i.natAbs = 0
  · rw [z]; decide
  · exact (Nat.log2_lt z).mpr (Nat.lt_trans h (by decide))
theorem Bd.lim {m : Nat} (hm : m ≤ 100) : ∀ {n : Nat} {d : D}, Bd m n d → d.showable = true ∧ d.depth ≤ n ∧ d.leavesShort 40 = true
  | 0, _, h => h.elim
  | n + 1, .tuple ds, h => ⟨all_show fun d hd => (Bd.lim hm (h.2 d hd)).1, Nat.succ_le_succ (all_depth fun d hd => (Bd.lim hm (h.2 d hd)).2.1), all_leaves fun d hd => (Bd.lim hm (h.2 d hd)).2.2⟩
  | n + 1, .list ds, h => ⟨all_show fun d hd => (Bd.lim hm (h.2 d hd)).1, Nat.succ_le_succ (all_depth fun d hd => (Bd.lim hm (h.2 d hd)).2.1), all_leaves fun d hd => (Bd.lim hm (h.2 d hd)).2.2⟩
  | n + 1, .dict kvs, h => by
    cases (show kvs = [] from h)
    exact ⟨rfl, by show 0 + 1 ≤ n + 1; omega, rfl⟩
  | n + 1, .int i, h => by
    have h1 := big30 hm h
    refine ⟨decide_eq_true (Nat.lt_trans (log30 h1) (by decide)), Nat.zero_le _, decide_eq_true ?_⟩
    have := int_text_length_le10 (a := i) (k := 30) (by decide) h1
    show (Str.ofString (toString i)).length ≤ 40
    rw [PySem.ofString_length]
    omega
  | n + 1, .str z, h => ⟨rfl, Nat.zero_le _, by
    have o := h.1
    unfold PyData.strOk at o
    rw [Array.all_eq_true'] at o
    show (z.cps.toList.all fun c => decide (c < 16 ^ 8)) = true
    rw [List.all_eq_true]
    intro c hc
    have := of_decide_eq_true (o c (Array.mem_toList_iff.mp hc))
    exact decide_eq_true (Nat.lt_trans this (by decide))⟩
  | n + 1, .none, h => ⟨rfl, Nat.zero_le _, rfl⟩
  | n + 1, .bool _, h => ⟨rfl, Nat.zero_le _, rfl⟩
/-- it can be shown -/
theorem Bd.repr {m n : Nat} {d : D} (h : Bd m n d) (hm : m ≤ 100) (hn : n ≤ 60) (hw : d.weight ≤ 200000) : reprD [d] = some (.str d.shown) := by
  obtain ⟨a, b, c⟩ := h.lim hm
  have := PyData.shown_le 40 (by decide) d c
  refine if_pos ⟨a, by omega, Nat.le_trans this ?_⟩
  exact Nat.le_trans (show (40 + 2) * d.weight + 40 ≤ 8400040 by omega) (by decide)
/-! ### weights -/
theorem wAll_app : ∀ (a b : List D), PyData.weightAll (a ++ b) = PyData.weightAll a + PyData.weightAll b
  | [], b => (Nat.zero_add _).symm
  | x :: a, b => by
    show x.weight + 1 + PyData.weightAll (a ++ b) = x.weight + 1 + PyData.weightAll a + PyData.weightAll b
    rw [wAll_app a b]
    omega
theorem wAll_mem : ∀ {a : List D} {x : D}, x ∈ a → x.weight + 1 ≤ PyData.weightAll a
  | y :: a, x, h => by
    show x.weight + 1 ≤ y.weight + 1 + PyData.weightAll a
    rcases List.mem_cons.mp h with e | e
    · rw [e]; omega
    · have := wAll_mem e
      omega
theorem wAll_drop (a : List D) (n : Nat) : PyData.weightAll (a.drop n) ≤ PyData.weightAll a := by
  have := wAll_app (a.take n) (a.drop n)
  rw [List.take_append_drop] at this
  omega
theorem wAll_take (a : List D) (n : Nat) : PyData.weightAll (a.take n) ≤ PyData.weightAll a := by
  have := wAll_app (a.take n) (a.drop n)
  rw [List.take_append_drop] at this
  omega
theorem wAll_rev : ∀ a : List D, PyData.weightAll a.reverse = PyData.weightAll a
  | [] => rfl
  | x :: a => by
    rw [List.reverse_cons, wAll_app, wAll_rev a]
    show PyData.weightAll a + (x.weight + 1 + 0) = x.weight + 1 + PyData.weightAll a
    omega
theorem wAll_le {c : Nat} : ∀ {a : List D}, (∀ x ∈ a, x.weight ≤ c) → PyData.weightAll a ≤ a.length * (c + 1)
  | [], _ => Nat.zero_le _
  | x :: a, h => by
    have h1 := h x (by simp)
    have h2 := wAll_le (c := c) (a := a) fun y hy => h y (by simp [hy])
    show x.weight + 1 + PyData.weightAll a ≤ (a.length + 1) * (c + 1)
    rw [Nat.add_mul, Nat.one_mul]
    omega
theorem wAll_set {a : List D} {i : Nat} {y x : D} (hi : a[i]? = some x) : PyData.weightAll (a.set i y) + x.weight = PyData.weightAll a + y.weight := by
  have hl := (List.getElem?_eq_some_iff.mp hi).1
  have e1 : a.set i y = a.take i ++ y :: a.drop (i + 1) := by rw [List.set_eq_take_append_cons_drop, if_pos hl]
  have e2 : a = a.take i ++ x :: a.drop (i + 1) := by
    obtain ⟨_, e⟩ := List.getElem?_eq_some_iff.mp hi
    rw [← e]
    simp
  have w1 := wAll_app (a.take i) (y :: a.drop (i + 1))
  have w2 := wAll_app (a.take i) (x :: a.drop (i + 1))
  rw [← e1] at w1
  rw [← e2] at w2
  have w3 : PyData.weightAll (y :: a.drop (i + 1)) = y.weight + 1 + PyData.weightAll (a.drop (i + 1)) := rfl
  have w4 : PyData.weightAll (x :: a.drop (i + 1)) = x.weight + 1 + PyData.weightAll (a.drop (i + 1)) := rfl
  omega
theorem wInt {i : Int} (h : i.natAbs < 10 ^ 30) : (PyData.int i).weight ≤ 100 := by
  show (if i == 0 then 0 else i.natAbs.log2 + 1) ≤ 100
  have := log30 h
  split <;> omega
/-! ### odd things, and things bent -/
def OddP (d : D) : Prop := (∀ m, Bd m 2 d) ∧ d.weight ≤ 100
def SpP (x d : D) : Prop := (∀ m k, m ≤ 5 → Bd m k x → Bd (m + 1) (k + 2) d) ∧ d.weight ≤ 2 * x.weight + 200
theorem OddP.sp {x d : D} (h : OddP d) : SpP x d := ⟨fun m k _ _ => (h.1 (m + 1)).up (Nat.le_refl _) (by omega), by have := h.2; omega⟩
theorem cut_last {α : Type} (xs : List α) : cutD xs (some (-1)) none = xs.drop (xs.length - 1) := by
  unfold cutD
  rw [HT.sIx_none]
  have : HT.sIx xs.length 0 (some (-1)) = xs.length - 1 := by
    show (if (-1 : Int) < 0 then ((-1 : Int) + (xs.length : Int)).toNat else min (-1 : Int).toNat xs.length) = _
    rw [if_pos (by decide)]
    omega
  rw [this, List.take_of_length_le (by rw [List.length_drop]; omega)]
theorem sp_drop {xs : List D} : SpP (.tuple xs) (.tuple (xs.drop 1)) := ⟨fun m k _ h => by
  cases k with
  | zero => exact h.elim
  | succ k => exact ⟨by have := h.1; rw [List.length_drop]; omega, fun d hd => (h.2 d (List.mem_of_mem_drop hd)).up (by omega) (by omega)⟩, by
  show PyData.weightAll _ ≤ 2 * PyData.weightAll xs + 200
  have := wAll_drop xs 1
  omega⟩
theorem sp_more {xs : List D} : SpP (.tuple xs) (.tuple (xs ++ xs.drop (xs.length - 1))) := ⟨fun m k _ h => by
  cases k with
  | zero => exact h.elim
  | succ k => exact ⟨by have := h.1; rw [List.length_append, List.length_drop]; omega, fun d hd => by
      rcases List.mem_append.mp hd with hd | hd
      · exact (h.2 d hd).up (by omega) (by omega)
      · exact (h.2 d (List.mem_of_mem_drop hd)).up (by omega) (by omega)⟩, by
  show PyData.weightAll _ ≤ 2 * PyData.weightAll xs + 200
  rw [wAll_app]
  have := wAll_drop xs (xs.length - 1)
  omega⟩
theorem sp_rev {xs : List D} : SpP (.tuple xs) (.tuple xs.reverse) := ⟨fun m k _ h => by
  cases k with
  | zero => exact h.elim
  | succ k => exact ⟨by have := h.1; rw [List.length_reverse]; omega, fun d hd => (h.2 d (List.mem_reverse.mp hd)).up (by omega) (by omega)⟩, by
  show PyData.weightAll _ ≤ 2 * PyData.weightAll xs + 200
  rw [wAll_rev]
  omega⟩
theorem sp_list {xs : List D} : SpP (.tuple xs) (.list xs) := ⟨fun m k _ h => by
  cases k with
  | zero => exact h.elim
  | succ k => exact ⟨by have := h.1; omega, fun d hd => (h.2 d hd).up (by omega) (by omega)⟩, by
  show PyData.weightAll _ ≤ 2 * PyData.weightAll xs + 200
  omega⟩
theorem sp_set {xs : List D} {i : Nat} {x y : D} (hi : xs[i]? = some x) (h : SpP x y) : SpP (.tuple xs) (.tuple (xs.set i y)) := ⟨fun m k hm hb => by
  cases k with
  | zero => exact hb.elim
  | succ k => exact ⟨by have := hb.1; rw [List.length_set]; omega, fun d hd => by
      rcases List.mem_or_eq_of_mem_set hd with hd | rfl
      · exact (hb.2 d hd).up (by omega) (by omega)
      · exact h.1 m k hm (hb.2 x (List.mem_of_getElem? hi))⟩, by
  show PyData.weightAll _ ≤ 2 * PyData.weightAll xs + 200
  have h1 := wAll_set (y := y) hi
  have h2 := wAll_mem (List.mem_of_getElem? hi)
  have h3 := h.2
  omega⟩
theorem strOk_iff {z : Str} : PyData.strOk z = true ↔ ∀ c ∈ z.cps.toList, c < 1114112 := by
  unfold PyData.strOk
  rw [Array.all_eq_true']
  constructor
  · intro h c hc
    exact of_decide_eq_true (h c (Array.mem_toList_iff.mp hc))
  · intro h c hc
    exact decide_eq_true (h c (Array.mem_toList_iff.mpr hc))
theorem s_app (x y : Str) : (x ++ y).cps.toList = x.cps.toList ++ y.cps.toList := by
  show (x.cps ++ y.cps).toList = _
  rw [Array.toList_append]
theorem s_len (x : Str) : x.length = x.cps.toList.length := by
  show x.cps.size = _
  rw [Array.length_toList]
theorem sp_str {x y : Str} (h : ∀ c ∈ y.cps.toList, c ∈ x.cps.toList ∨ c < 1114112) (hl : y.length ≤ x.length + 8) : SpP (.str x) (.str y) := ⟨fun m k _ hb => by
  cases k with
  | zero => exact hb.elim
  | succ k => exact ⟨strOk_iff.mpr fun c hc => (h c hc).elim (strOk_iff.mp hb.1 c) id, by have := hb.2; omega⟩, by
  show y.length ≤ 2 * x.length + 200
  omega⟩
theorem sp_int {x : D} {i j : Int} (hx : ∀ m k, m ≤ 5 → Bd m k x → Bd m k (.int i)) (h0 : i.natAbs < 10 ^ 30) (hj : j.natAbs ≤ i.natAbs + 20) : SpP x (.int j) := ⟨fun m k hm hb => by
  have := hx m k hm hb
  cases k with
  | zero => exact hb.elim
  | succ k => exact Nat.le_trans hj (Nat.le_trans (Nat.add_le_add_right (show i.natAbs ≤ 10 ^ 29 + 100 * m from this) 20) (by omega)), by
  have e : j.natAbs < 2 ^ 100 := Nat.lt_of_le_of_lt hj (Nat.lt_trans (Nat.add_lt_add_right h0 20) (by decide))
  have : (PyData.int j).weight ≤ 200 := by
    show (if j == 0 then 0 else j.natAbs.log2 + 1) ≤ 200
    split
    · omega
    · by_cases z : j.natAbs = 0
      · rw [z]; decide
      · have := (Nat.log2_lt z).mpr e
        omega
  omega⟩
theorem sp_bool {x : D} {b : Bool} : SpP x (.bool b) := ⟨fun m k _ _ => trivial, Nat.zero_le _⟩
/-! ### readings -/
theorem wIfTail {c : WP Bool} {f r : WP Out} {ρ : Rho} {b : Nat} {Q : Out → Nat → Prop} (B : Nat → Prop) (hr : ∀ b', B b' → r.w ρ b' Q) (h : (∀ b', B b' → r.w ρ b' Q) → c.w ρ b fun k b1 => if k = true then (swSeq f r).w ρ b1 Q else r.w ρ b1 Q) : (swSeq (swIf c f swNil) r).w ρ b Q := by
  refine c.m (fun k b1 z => ?_) (h hr)
  cases k with
  | true => exact z
  | false => exact z
end Dl
namespace Dl
open PySem PySem.Spec PyProof.Rows L2 Rt
/-! ### a list of one's own that is only read from now on -/
theorem Mu.frz {M0 : Addr → Prop} {σ : L2.St} {ρ : Rho} {i : Nat} {d : D} (a : Addr) (m : Mu true M0 σ (ρ.set i (some (.dat d))) a) : Mu true M0 σ ρ a := by
  rcases m with m | ⟨_, j, ds, e1, e2⟩
  · exact .inl m
  · rcases set_get e1 with ⟨_, z⟩ | ⟨_, z⟩
    · cases z
    · exact .inr ⟨rfl, j, ds, z, e2⟩
theorem Rn.frz {g : Pl} {M0 : Addr → Prop} {H0 H : Hp} {σ : L2.St} {ρ : Rho} {b : Nat} {i : Nat} {ds : List D} (R : Rn g M0 H0 H σ ρ b) (ei : ρ[i]? = some (some (.own ds))) : Rn g M0 H0 H σ (ρ.set i (some (.dat (.list ds)))) b := by
  have sh : ∀ a, Mu true M0 σ (ρ.set i (some (.dat (.list ds)))) a → Mu true M0 σ ρ a ∨ H a = none := fun a m => .inl (Mu.frz a m)
  refine ⟨R.kp, R.dom0, R.dom, R.pl, R.iv, by rw [List.length_set]; exact R.len, fun j d' e => ?_, fun j ds' e => ?_, fun j w e => ?_, fun j e => ?_, fun j k a c p e1 e2 e3 e4 => ?_⟩
  · rcases set_get e with ⟨rfl, e9⟩ | ⟨n, e⟩
    · cases e9
      obtain ⟨p, vs, x, y, z, l, w⟩ := R.own i ds ei
      refine ⟨.ref p, x, .lst y (fun m => ?_) l (w.reM sh)⟩
      rcases m with m | ⟨_, j, ds', f1, f2⟩
      · exact R.dom0 p m z
      · rcases set_get f1 with ⟨_, q⟩ | ⟨n, q⟩
        · cases q
        · exact n (R.inj i j ds ds' p ei q x f2)
    · obtain ⟨w, x, y⟩ := R.dat j d' e
      exact ⟨w, x, y.reM sh⟩
  · rcases set_get e with ⟨_, z⟩ | ⟨_, z⟩
    · cases z
    · obtain ⟨p, vs, x, y, z, l, w⟩ := R.own j ds' z
      exact ⟨p, vs, x, y, z, l, w.reM sh⟩
  · rcases set_get e with ⟨_, z⟩ | ⟨_, z⟩
    · cases z
    · exact R.raw j w z
  · rcases set_get e with ⟨_, z⟩ | ⟨_, z⟩
    · cases z
    · exact R.pool j z
  · rcases set_get e1 with ⟨_, z⟩ | ⟨_, f1⟩
    · cases z
    rcases set_get e2 with ⟨_, z⟩ | ⟨_, f2⟩
    · cases z
    exact R.inj j k a c p f1 f2 e3 e4
def swFrz (i : Nat) (f : WP Out) : WP Out := ⟨fun ρ b Q => ∃ ds, ρ[i]? = some (some (.own ds)) ∧ f.w (ρ.set i (some (.dat (.list ds)))) b Q, fun h ⟨ds, e, z⟩ => ⟨ds, e, f.m h z⟩⟩
section
variable {X : Cx} {K : PySem.W.Frag}
theorem nS_frz {st : Stmt} {i : Nat} {f : WP Out} (h : PS X st (tSn f)) : PS X st (tSn (swFrz i f)) := h.wk fun Dn σ H q => by
  obtain ⟨g, M0, H0, ρ, b, R, ds, e, q⟩ := q
  exact ⟨g, M0, H0, _, b, R.frz e, f.m (fun o b' p => PostN.from ⟨.refl, fun a m => .inl (Mu.frz a m)⟩ p) q⟩
/-- a loop each of whose turns costs so much -/
theorem forN_cost {p : Pat} {body : WP Out} {Q : Out → Nat → Prop} (N c : Nat) (I : Nat → Rho → Prop) : ∀ (items : List D) (k : Nat) (ρ : Rho) (b : Nat), k + items.length ≤ N → I k ρ → items.length * c ≤ b → (∀ x ∈ items, ∀ k ρ b, k < N → I k ρ → c ≤ b → ∃ ρ1, bindP p x ρ = some ρ1 ∧ ∀ Q' : Out → Nat → Prop, (∀ ρ2 b2, I (k + 1) ρ2 → b ≤ b2 + c → Q' (.nx ρ2) b2) → body.w ρ1 b Q') → (∀ ρ' b', I (k + items.length) ρ' → b ≤ b' + items.length * c → Q (.nx ρ') b') → forN p body items ρ b Q
  | [], k, ρ, b, _, i, _, _, q => q ρ b i (by simp)
  | x :: xs, k, ρ, b, hN, i, hb, hs, q => by
    have e : (x :: xs).length * c = xs.length * c + c := by rw [List.length_cons, Nat.add_mul, Nat.one_mul]
    rw [e] at hb q
    rw [List.length_cons] at hN
    obtain ⟨ρ1, e1, hw⟩ := hs x (by simp) k ρ b (by omega) i (by omega)
    refine ⟨ρ1, e1, hw _ fun ρ2 b2 i2 h2 => forN_cost N c I xs (k + 1) ρ2 b2 (by omega) i2 (by omega) (fun y hy => hs y (by simp [hy])) fun ρ' b' i' h' => q ρ' b' ?_ (by omega)⟩
    rw [List.length_cons, show k + (xs.length + 1) = k + 1 + xs.length by omega]
    exact i'
/-- texts told apart -/
def neS : D → D → Option D
  | .str a, .str b => some (.bool (!(a == b)))
  | _, _ => none
theorem o_neS (hu : X.A.units + 64 < cLine) : OpR X (compareOp .NotEq) (rD neS) := by
  intro pn s σ H x y v u Q I rx ry h
  obtain ⟨M, a, b, d, dm, ra, rb, e, q⟩ := h
  cases ra <;> (try (cases rb <;> cases e; done))
  cases rb <;> (try (cases e; done))
  cases e
  obtain ⟨t, rfl⟩ := rx
  obtain ⟨t', rfl⟩ := ry
  exact SeqAt.RcNeAt.str_str _ _ _ _ _ _ _ _ ⟨.bl _, H, I, rfl, q _ _ (Same.refl _) (.bl _)⟩
end
/-! ### the law itself, where the table of modules is known to stand -/
theorem lawG2 {P : Program} {w : World} {K : PySem.W.Frag} {mg mb : Str → Option Value} {k : Nat} {fa a : Addr} {fd : FuncData} {x : Str} {sp : Sp} {s0 : Shared} {us : List Value} {ns : List Int}
    (inK : K.In s0.heap) (gl : s0.heap.Ns mainGlobals mg) (bl : s0.heap.Ns builtinsNs mb) (bb : ∀ x : Str, x ≠ "__name__" → mb x = bootBuiltins x) (nl : s0.heap.NoLimit) (sm : ∃ mm, s0.heap.Ns sysModules mm) (ng : s0.gens = #[])
    (sc : s0.heap.get? a = some { cls := .type "list", data := .seq us.toArray }) (hin : IntsAre us ns) (short : ns.length ≤ sizeLine) (room : Room k callerA)
    (F : ∀ base : Heap, K.In base → base.Ns mainGlobals mg → (∃ o, base.get? sysModules = some o) → FnG P w K mg base k fa fd [x] sp) (bd : ∀ (s : Shared) (u : Value), BindsTo s fd ⟨[u], []⟩ [(x, u)])
    (hsp : ∀ H : Hp, Only H → SqL K H a (ns.map V.int) → sp [.ref a] H (fun v _ => v = .bl true) E0) :
    codeAny (model P w) callerA (.call (.ref fa) ⟨[.ref a], []⟩) (fun r s2 => r = .ok (.ret (.bool true)) ∧ OldK s0.heap s2.heap ∧ s2.os = s0.os ∧ AllBare s2.gens) s0 := by
  have rel := vals_ints hin
  have main : ∀ H : Hp, Only H → SqL K H a (ns.map V.int) → HOk P w H s0.heap → (∀ b u, H b = some u → b = a ∧ K.lookup a = none) →
      codeAny (model P w) callerA (.call (.ref fa) ⟨[.ref a], []⟩) (fun r s2 => r = .ok (.ret (.bool true)) ∧ OldK s0.heap s2.heap ∧ s2.os = s0.os ∧ AllBare s2.gens) s0 := by
    intro H only seq hok just
    have free : ∀ {b : Addr}, (b = a → K.lookup a = none → False) → H b = none := fun {b} no => by
      cases z : H b with
      | none => rfl
      | some u => exact (no (just b u z).1 (just b u z).2).elim
    have spaces : ∀ {b : Addr} {m : Str → Option Value}, s0.heap.Ns b m → (hidT s0.heap H).Ns b m := fun {b m} h => by
      obtain ⟨o, es, ep, e, d, r⟩ := h
      refine ⟨o, es, ep, hidT_get e (free fun z _ => ?_), d, r⟩
      subst z
      rw [sc] at e
      cases e
      cases d
    have inB : K.In (hidT s0.heap H) := fun b o e => hidT_get (inK b o e) (free fun z n => by
      subst z
      rw [n] at e
      cases e)
    have md : Mod K mg (hidT s0.heap H) := by
      obtain ⟨mc, n1, n2⟩ := nl
      exact ⟨inB, spaces gl, ⟨mb, spaces bl, bb⟩, ⟨mc, spaces n1, n2⟩⟩
    have hsm : ∃ o, (hidT s0.heap H).get? sysModules = some o := by
      obtain ⟨mm, h⟩ := sm
      obtain ⟨o, _, _, e, _⟩ := spaces h
      exact ⟨o, e⟩
    have en : Env0 P w K mg (hidT s0.heap H) callerA [] s0 H := ⟨rfl, md, fun b o e => of_hidT e, Nat.le_of_eq (hidT_size _ _), trivial, (fun b z => nomatch (show b ∈ ([] : List Addr) from z)), hok, .of_eq ng⟩
    refine codeAny_mono ((F _ inB (spaces gl) hsm).goes callerA [] s0 H ⟨[.ref a], []⟩ [.ref a] [.ref a] _ _ room rfl en (bd s0 (.ref a)) (.cons rfl .nil) (hsp H only seq)) fun r s2 h => ?_
    match r, h with
    | .error e, h => exact (h : False).elim
    | .ok .next, h => exact (h : False).elim
    | .ok .brk, h => exact (h : False).elim
    | .ok .cont, h => exact (h : False).elim
    | .ok (.ret u), h =>
      obtain ⟨v, H2, os, bare, un, hok2, rv, rfl⟩ := h
      obtain rfl : u = Value.bool true := rv
      refine ⟨rfl, OldK.of_keep fun b o e => ?_, os, bare⟩
      rcases only b with z | ⟨ob, xs, z⟩
      · exact un.keep b o e z (fun m => nomatch (show b ∈ ([] : List Addr) from m)) (fun m => nomatch m)
      · have e1 := (hok b _ z).1
        have e2 := (hok2 b _ (un.frzs b ob _ z)).1
        rw [e] at e1
        cases e1
        exact e2
  cases own : K.lookup a with
  | some o =>
    have e := inK a o own
    rw [sc] at e
    cases e
    exact main (fun _ => none) (fun _ => .inl rfl) (.inr ⟨_, us.toArray, _, own, rfl, rfl, rfl, by rw [List.size_toArray, hin.length]; exact short, by simpa using rel⟩) (fun b u z => nomatch z) (fun b u z => nomatch z)
  | none =>
    refine main (fun b => if b = a then some (.frz { cls := .type "list", data := .seq us.toArray } (.lst (ns.map V.int))) else none) (fun b => ?_) (.inl (.inr ⟨{ cls := .type "list", data := .seq us.toArray }, if_pos rfl⟩)) (fun b u z => ?_) (fun b u z => ?_)
    · by_cases e : b = a
      · exact .inr ⟨_, _, if_pos e⟩
      · exact .inl (if_neg e)
    · by_cases e : b = a
      · have z2 := (if_pos e).symm.trans z
        cases z2
        subst e
        exact ⟨sc, by rw [List.length_map]; exact short, us, _, rel, sc⟩
      · exact nomatch ((if_neg e).symm.trans z)
    · by_cases e : b = a
      · exact ⟨e, own⟩
      · exact nomatch ((if_neg e).symm.trans z)
theorem walk_G2 {l : PySem.W.OpenLaw} {n k : Nat} {q : Program} {loose : List Str} {XP : (Str → Option Value) → Heap → Prop} {YP : World → Heap → Prop} {d : DefRec} {K : Params → PySem.W.Frag} {sp : World → Sp} {x : Str}
    (hi : importsNone q = true) (most : l.most = some n) (n2 : n ≤ sizeLine) (nd : d.params.defaults = []) (room : Room k callerA) (hY : ∀ (w : World) (h : Heap), YP w h → (K w.params).In h)
    (F : ∀ (w : World) (mg : Str → Option Value) (fa : Addr) (h : Heap), (K w.params).In h → h.Ns mainGlobals mg → mg d.name = some (.ref fa) →
      ∃ fd : FuncData, (∀ (s : Shared) (u : Value), BindsTo s fd ⟨[u], []⟩ [(x, u)]) ∧ ∀ base : Heap, (K w.params).In base → base.Ns mainGlobals mg → (∃ o, base.get? sysModules = some o) → FnG l.prog w (K w.params) mg base k fa fd [x] (sp w))
    (hsp : ∀ (w : World) (H : Hp) (a : Addr) (ns : List Int), ns.length ≤ n → Only H → SqL (K w.params) H a (ns.map V.int) → sp w [.ref a] H (fun v _ => v = .bl true) E0) :
    PySem.W.WalkO q loose XP YP l.row.toRowW d [] (fun f vs => PySem.call f vs) := by
  refine Att.attach_call most nd fun w sA sB mg mb fa o pm cd doc a us ns G Y ho hd hcd hmg hobj hints hlen hg => ?_
  obtain ⟨fd, hb, hF⟩ := F w mg fa _ (hY w _ Y) G.T.g hmg
  obtain ⟨mm, h1, _⟩ := (G.T.seer hi).mods
  exact lawG2 (hY w _ Y) G.T.g G.T.b G.T.builtins G.T.nolimit ⟨mm, h1⟩ hg hobj hints (Nat.le_trans hlen n2) room hF hb fun H only seq => hsp w H a ns hlen only seq
end Dl
namespace Dl
open PySem PySem.Spec PyProof.Rows L2 Rt
/-! ### the least and the greatest of a list, a list in its order -/
def leastI : List Int → Option Int
  | [] => none
  | x :: xs => some (xs.foldl (fun a b => if b < a then b else a) x)
def mostI : List Int → Option Int
  | [] => none
  | x :: xs => some (xs.foldl (fun a b => if b > a then b else a) x)
theorem foldl_least : ∀ (xs : List Int) (x m : Int), m ∈ x :: xs → (∀ y ∈ x :: xs, m ≤ y) → xs.foldl (fun a b => if b < a then b else a) x = m
  | [], x, m, h, _ => (List.mem_singleton.mp h).symm
  | y :: xs, x, m, h, hl => by
    show xs.foldl _ (if y < x then y else x) = m
    have h1 := hl x (by simp)
    have h2 := hl y (by simp)
    refine foldl_least xs _ m ?_ fun z hz => ?_
    · rcases List.mem_cons.mp h with rfl | h
      · rw [if_neg (by omega)]; exact List.mem_cons_self
      · rcases List.mem_cons.mp h with rfl | h
        · by_cases e : m < x
          · rw [if_pos e]; exact List.mem_cons_self
          · have : x = m := by omega
            rw [if_neg e, this]; exact List.mem_cons_self
        · exact List.mem_cons_of_mem _ h
    · rcases List.mem_cons.mp hz with rfl | hz
      · split <;> omega
      · exact hl z (by simp [hz])
theorem foldl_most : ∀ (xs : List Int) (x m : Int), m ∈ x :: xs → (∀ y ∈ x :: xs, y ≤ m) → xs.foldl (fun a b => if b > a then b else a) x = m
  | [], x, m, h, _ => (List.mem_singleton.mp h).symm
  | y :: xs, x, m, h, hl => by
    show xs.foldl _ (if y > x then y else x) = m
    have h1 := hl x (by simp)
    have h2 := hl y (by simp)
    refine foldl_most xs _ m ?_ fun z hz => ?_
    · rcases List.mem_cons.mp h with rfl | h
      · rw [if_neg (by omega)]; exact List.mem_cons_self
      · rcases List.mem_cons.mp h with rfl | h
        · by_cases e : m > x
          · rw [if_pos e]; exact List.mem_cons_self
          · have : x = m := by omega
            rw [if_neg e, this]; exact List.mem_cons_self
        · exact List.mem_cons_of_mem _ h
    · rcases List.mem_cons.mp hz with rfl | hz
      · split <;> omega
      · exact hl z (by simp [hz])
def minLD : List D → Option D
  | [.list ds] => ((intsD ds).bind leastI).map .int
  | _ => none
def maxLD : List D → Option D
  | [.list ds] => ((intsD ds).bind mostI).map .int
  | _ => none
section
variable {X : Cx}
theorem c_minL (hc : X.calm = true) : CallR X (.builtin "min") (rC minLD) := by
  intro pn s σ H xs us Q I r h
  obtain ⟨M, ds, d, dm, ra, e, q⟩ := h
  match ds, ra, e with
  | [.list ds], .cons (.lst t n l rr) .nil, e =>
    obtain ⟨m, em, rfl⟩ := some_map (show ((intsD ds).bind leastI).map PyData.int = some d from e)
    obtain ⟨ns, en, em⟩ := some_bind em
    have hv := rr.ints en
    subst hv
    refine cr_min hc pn s σ H _ us Q I r ⟨_, ns, rfl, SqL.of t, ?_, fun m' hm hl => ?_⟩
    · cases ns with
      | nil => cases em
      | cons _ _ => simp
    · have : m' = m := by
        cases ns with
        | nil => cases em
        | cons x xs =>
          have e2 := foldl_least xs x m' hm hl
          have em : some (xs.foldl (fun a b => if b < a then b else a) x) = some m := em
          rw [e2] at em
          cases em
          rfl
      subst this
      exact q _ _ (Same.refl _) (.int _)
theorem c_maxL (hc : X.calm = true) : CallR X (.builtin "max") (rC maxLD) := by
  intro pn s σ H xs us Q I r h
  obtain ⟨M, ds, d, dm, ra, e, q⟩ := h
  match ds, ra, e with
  | [.list ds], .cons (.lst t n l rr) .nil, e =>
    obtain ⟨m, em, rfl⟩ := some_map (show ((intsD ds).bind mostI).map PyData.int = some d from e)
    obtain ⟨ns, en, em⟩ := some_bind em
    have hv := rr.ints en
    subst hv
    refine cr_max hc pn s σ H _ us Q I r ⟨_, ns, rfl, SqL.of t, ?_, fun m' hm hl => ?_⟩
    · cases ns with
      | nil => cases em
      | cons _ _ => simp
    · have : m' = m := by
        cases ns with
        | nil => cases em
        | cons x xs =>
          have e2 := foldl_most xs x m' hm hl
          have em : some (xs.foldl (fun a b => if b > a then b else a) x) = some m := em
          rw [e2] at em
          cases em
          rfl
      subst this
      exact q _ _ (Same.refl _) (.int _)
/-- sorted, the least first -/
def sortA (ns : List Int) : List Int := ns.mergeSort fun a b => decide (a ≤ b)
theorem sortA_perm (ns : List Int) : (sortA ns).Perm ns := List.mergeSort_perm ns _
theorem sortA_pw (ns : List Int) : (sortA ns).Pairwise (· ≤ ·) := by
  have := List.pairwise_mergeSort (le := fun a b : Int => decide (a ≤ b)) (fun a b c h1 h2 => by simp at *; omega) (fun a b => by simp; omega) ns
  exact this.imp fun h => by simpa using h
theorem pw_uniqA : ∀ {a b : List Int}, a.Perm b → a.Pairwise (· ≤ ·) → b.Pairwise (· ≤ ·) → a = b
  | [], b, p, _, _ => (List.nil_perm.mp p).symm
  | x :: a, [], p, _, _ => absurd p.length_eq (by simp)
  | x :: a, y :: b, p, ha, hb => by
    have h1 := List.pairwise_cons.mp ha
    have h2 := List.pairwise_cons.mp hb
    have e : x = y := by
      have m1 : x ∈ y :: b := p.mem_iff.mp List.mem_cons_self
      have m2 : y ∈ x :: a := p.mem_iff.mpr List.mem_cons_self
      rcases List.mem_cons.mp m1 with e | m1
      · exact e
      · rcases List.mem_cons.mp m2 with e | m2
        · exact e.symm
        · have := h1.1 y m2
          have := h2.1 x m1
          omega
    subst e
    rw [pw_uniqA ((List.perm_cons _).mp p) h1.2 h2.2]
def sorAD : List D → Option D
  | [.list ds] => (intsD ds).bind fun ns => if ns.length < 64 then some (.list ((sortA ns).map .int)) else none
  | _ => none
theorem ints_rpA {M : Addr → Prop} {H : Hp} : ∀ ns : List Int, RpAll M H (ns.map V.int) (ns.map PyData.int)
  | [] => .nil
  | n :: ns => .cons (.int n) (ints_rpA ns)
theorem c_sorA : CallR X (.builtin "sorted") (rC sorAD) := by
  intro pn s σ H xs us Q I r h
  obtain ⟨M, ds, d, dm, ra, e, q⟩ := h
  match ds, ra, e with
  | [.list ds], .cons (.lst t n l rr) .nil, e =>
    obtain ⟨ns, en, e⟩ := some_bind (show (intsD ds).bind _ = some d from e)
    obtain ⟨l2, rfl⟩ := iteS e
    have hv := rr.ints en
    subst hv
    refine cr_sorted pn s σ H _ us Q I r ⟨_, ns, rfl, SqL.of t, l2, fun ns' p pm pw np => ?_⟩
    have : ns' = sortA ns := pw_uniqA (pm.trans (sortA_perm ns).symm) pw (sortA_pw ns)
    subst this
    exact q _ _ (smN np) (.lst upd_same (dm.not np) (by rw [List.length_map, (sortA_perm ns).length_eq]; exact small64 l2) (ints_rpA _))
end
end Dl
namespace Dl
open PySem PySem.Spec PyProof.Rows L2 Rt
/-! ### comprehensions of two fors -/
def lc2Go (vs1 : List Nat) (p p1 : Pat) (it1 : Rho → Option (List D)) (f : EF) (ρ : Rho) : List D → Option (List D)
  | [] => some []
  | x :: xs => (bindP p x ρ).bind fun ρ1 => (it1 ρ1).bind fun its => (lcGo p1 oYes f (wipeR ρ1 vs1) its).bind fun r => (lc2Go vs1 p p1 it1 f ρ xs).map fun t => r ++ t
def eLc2 (μ : Bool) (vs vs1 : List Nat) (it : Rho → Option (List D)) (p p1 : Pat) (it1 : Rho → Option (List D)) (f : EF) : EF := fun ρ => (it ρ).bind fun items => (lc2Go vs1 p p1 it1 f (wipeR (shutR μ ρ) vs) items).bind fun r => if r.length ≤ 100000 then some (.list r) else none
theorem Rs.wipeN {M0 : Addr → Prop} {H0 H : Hp} {σ : L2.St} {ρ : Rho} (R : Rs M0 H0 H σ ρ) : ∀ vs : List Nat, Rs M0 H0 H (wipe σ vs) (wipeR ρ vs)
  | [] => R
  | v :: vs => (R.wipeN vs).clear v none
theorem Rs.reb {M0 : Addr → Prop} {H H' : Hp} {σ : L2.St} {ρ : Rho} (R : Rs M0 H H σ ρ) (k : KpM M0 H H') (dom : Dom M0 H') : Rs M0 H' H' σ ρ := by
  have no : ∀ (i : Nat) (ds : List D), ρ[i]? = some (some (.own ds)) → False := fun i ds e => by
    obtain ⟨p, vs, _, b, c, _⟩ := R.own i ds e
    rw [b] at c
    cases c
  exact ⟨Same.refl _, dom, R.len, fun i d e => by
    obtain ⟨v, a, b⟩ := R.dat i d e
    exact ⟨v, a, b.mono fun p o n e => k p o (fun m => n (.inl m)) e⟩, fun i ds e => (no i ds e).elim, R.raw, fun i j a b p e => (no i a e).elim⟩
theorem Rs.noM {M0 : Addr → Prop} {H : Hp} {σ : L2.St} {ρ : Rho} (R : Rs M0 H H σ ρ) (a : Addr) (m : Mu true M0 σ ρ a) : M0 a := by
  rcases m with m | ⟨_, i, ds, e, _⟩
  · exact m
  · obtain ⟨p, vs, _, b, c, _⟩ := R.own i ds e
    rw [b] at c
    cases c
theorem lc2Core {K : PySem.W.Frag} {μ μ1 μi pr pr1 : Bool} {M0 : Addr → Prop} {H0 H1 : Hp} {σ : L2.St} {ρ : Rho} {J : It} {items res : List D} {p p1 : Pat} {it1 : Rho → Option (List D)} {f : EF} {vs vs1 : List Nat} {D : Addr} {Qd : Hp → Prop}
    (R : Rs M0 H0 H1 σ ρ) (dw : ∀ M', (∀ a, M' a → Mu μ M0 σ ρ a ∨ H1 a = none) → DW pr M' H1 J items) (hD : H1 D = none) (hp : p.fits pr = true) (hs : ∀ j, j ∈ slP p → j ∈ vs) (hp1 : p1.fits pr1 = true) (hs1 : ∀ j, j ∈ slP p1 → j ∈ vs1) (e : lc2Go vs1 p p1 it1 f (wipeR (shutR μ ρ) vs) items = some res) (len : res.length ≤ 100000)
    (q : ∀ H acc, Same H1 H → H D = some (.lst acc) → acc.length ≤ sizeLine → RpAll (Mi μ M0 σ ρ D) H acc res → Qd H) :
    ∃ W : Nat → Nat → Hp → Prop, (∃ m, W 0 m (upd H1 D (.lst []))) ∧ ∀ i m H, W i m H →
      (J.stop i H ∧ Qd H) ∨ (J.go i H ∧ ∃ Nx : Hp → Prop, (∀ H', Nx H' → ∃ m', m' < m ∧ W (i + 1) m' H') ∧ ∀ x H', J.yld i H x H' → gP K p x (wipe σ vs) H' fun σ2 H2 => wipe σ2 vs = wipe σ vs ∧ tT oYes σ2 H2 fun b H3 =>
        if b = true then iD μ1 pr1 it1 σ2 H3 fun J1 H4 => ∃ W1 : Nat → Nat → Hp → Prop, (∃ m, W1 0 m H4) ∧ ∀ j k H, W1 j k H →
          (J1.stop j H ∧ Nx H) ∨ (J1.go j H ∧ ∃ Nx1 : Hp → Prop, (∀ H', Nx1 H' → ∃ k', k' < k ∧ W1 (j + 1) k' H') ∧ ∀ x H', J1.yld j H x H' → gP K p1 x (wipe σ2 vs1) H' fun σ3 H5 => wipe σ3 vs1 = wipe σ2 vs1 ∧ tT oYes σ3 H5 fun b H6 =>
            if b = true then tD μi f σ3 H6 fun y H7 => ∃ acc, H7 D = some (.lst acc) ∧ acc.length < sizeLine ∧ Nx1 (upd H7 D (.lst (acc ++ [y]))) else Nx1 H6)
        else Nx H3) := by
  have dw := dw (Mi μ M0 σ ρ D) fun a m => m.elim .inl fun z => .inr (by rw [z]; exact hD)
  obtain ⟨G, Y, W, hG, hY⟩ := dw.ex
  have szl : 100000 ≤ sizeLine := by decide
  let Pv : Nat → Hp → Prop := fun i H => Same H1 H ∧ ∃ acc done rest, H D = some (.lst acc) ∧ RpAll (Mi μ M0 σ ρ D) H acc done ∧ lc2Go vs1 p p1 it1 f (wipeR (shutR μ ρ) vs) (items.drop i) = some rest ∧ done ++ rest = res
  refine ⟨fun i m H => m = items.length - i ∧ i ≤ items.length ∧ Pv i H, ⟨items.length, by simp, Nat.zero_le _, smN hD, [], [], res, upd_same, .nil, e, rfl⟩, ?_⟩
  rintro i m H ⟨rfl, hi, sm, acc, done, rest, eD, ra, er, et⟩
  by_cases hlt : i < items.length
  · refine .inr ⟨W.goes i H hlt (hG H (.of sm)), Pv (i + 1), fun H' p' => ⟨items.length - (i + 1), by omega, rfl, hlt, p'⟩, fun x H' y => ?_⟩
    obtain ⟨d, ed, s2, rv⟩ := hY i x H H' (.of sm) (W.yields i H x H' hlt (hG H (.of sm)) y)
    rw [drop_at ed] at er
    unfold lc2Go at er
    obtain ⟨ρ1, e1, er⟩ := some_bind er
    obtain ⟨its, ei, er⟩ := some_bind er
    obtain ⟨r1, er1, er⟩ := some_bind er
    obtain ⟨r2, er2, er⟩ := some_map er
    have er : r1 ++ r2 = rest := er
    have Rin := R.inner (μ := μ) hD (sm.trans s2) (s2 _ _ eD) vs
    refine bindP.ok (pr := pr) Rin ?_ hp e1 fun σ2 R2 B2 => ⟨wipe_eq B2.oth B2.len hs, _, _, ρ1, true, R2, rfl, fun H3 s3 => ?_⟩
    · rcases rv with rv | ⟨zp, a, xs, ds, z1, z2, z3, z4⟩
      · exact .inl (rv.reM fun a m => .inl (Mi.noOwn a m))
      · exact .inr ⟨zp, a, xs, ds, z1, z2, z3, z4.reM fun a m => .inl (Mi.noOwn a m)⟩
    refine ⟨_, _, ρ1, its, R2.mono s3, ei, fun J1 H4 s4 dw1 => ?_⟩
    have dw1 := dw1 (Mi μ M0 σ ρ D) fun a m => .inl (.inl m)
    obtain ⟨G1, Y1, W1, hG1, hY1⟩ := dw1.ex
    have s24 : Same H H4 := (s2.trans s3).trans s4
    have s14 : Same H1 H4 := sm.trans s24
    let P1 : Nat → Hp → Prop := fun j H5 => KpM (Mi μ M0 σ ρ D) H4 H5 ∧ Same H1 H5 ∧ ∃ acc' done' rest', H5 D = some (.lst acc') ∧ RpAll (Mi μ M0 σ ρ D) H5 acc' (done ++ done') ∧ lcGo p1 oYes f (wipeR ρ1 vs1) (its.drop j) = some rest' ∧ done' ++ rest' = r1
    refine ⟨fun j k H5 => k = its.length - j ∧ j ≤ its.length ∧ P1 j H5, ⟨its.length, by simp, Nat.zero_le _, .refl, s14, acc, [], r1, s24 _ _ eD, by rw [List.append_nil]; exact ra.mono (.of s24), er1, rfl⟩, ?_⟩
    rintro j k H5 ⟨rfl, hj, k5, s5, acc', done', rest', eD5, ra5, er5, et5⟩
    by_cases hlj : j < its.length
    · refine .inr ⟨W1.goes j H5 hlj (hG1 H5 k5), P1 (j + 1), fun H' p' => ⟨its.length - (j + 1), by omega, rfl, hlj, p'⟩, fun x1 H6 y1 => ?_⟩
      obtain ⟨d1, ed1, s6, rv1⟩ := hY1 j x1 H5 H6 k5 (W1.yields j H5 x1 H6 hlj (hG1 H5 k5) y1)
      rw [drop_at ed1] at er5
      unfold lcGo at er5
      obtain ⟨ρ2, e2, er5⟩ := some_bind er5
      obtain ⟨bb, eb, er5⟩ := some_bind er5
      cases eb
      obtain ⟨dv, edv, er5⟩ := some_bind (show (f ρ2).bind _ = some rest' from er5)
      obtain ⟨r3, er3, er5⟩ := some_map er5
      have er5 : dv :: r3 = rest' := er5
      have dom6 : Dom (Mi μ M0 σ ρ D) H6 := fun a m => by
        rcases m with m | rfl
        · exact ((R.mono (s5.trans s6)).domu μ) a m
        · rw [s6 _ _ eD5]; intro z; cases z
      have k36 : KpM (Mi μ M0 σ ρ D) H' H6 := fun a o n e => s6 a o (k5 a o n (s4 a o (s3 a o e)))
      have Rw := (R2.reb k36 dom6).wipeN vs1
      refine bindP.ok (pr := pr1) Rw ?_ hp1 e2 fun σ3 R3 B3 => ⟨wipe_eq B3.oth B3.len hs1, _, _, ρ2, true, R3, rfl, fun H7 s7 => ?_⟩
      · rcases rv1 with rv1 | ⟨zp, a, xs, ds, z1, z2, z3, z4⟩
        · exact .inl (rv1.reM fun a m => .inl (Rw.noM a m))
        · exact .inr ⟨zp, a, xs, ds, z1, z2, z3, z4.reM fun a m => .inl (Rw.noM a m)⟩
      refine ⟨_, _, ρ2, dv, R3.mono s7, edv, fun y H8 s8 r8 => ?_⟩
      have s58 : Same H5 H8 := (s6.trans s7).trans s8
      have eD8 := s58 _ _ eD5
      have kp : KpM (Mi μ M0 σ ρ D) H8 (upd H8 D (.lst (acc' ++ [y]))) := fun q o n e => by
        rw [upd_ne (fun z => n (.inr z))]
        exact e
      have r8 : Rp (Mi μ M0 σ ρ D) H8 y dv := r8.reM fun a m => .inl (.inl m)
      have hl : acc'.length < sizeLine := by
        rw [ra5.len]
        have : (done ++ done').length < res.length := by
          rw [← et, ← er, ← et5, ← er5]
          simp only [List.length_append, List.length_cons]
          omega
        omega
      refine ⟨acc', eD8, hl, fun a o n e => kp a o n (s58 a o (k5 a o n e)), fun a o e => ?_, acc' ++ [y], done' ++ [dv], r3, upd_same, ?_, er3, by rw [← et5, ← er5, List.append_assoc]; rfl⟩
      · rw [upd_ne (ne_of_none e hD)]
        exact s58 a o (s5 a o e)
      · rw [← List.append_assoc]
        exact ((ra5.mono (.of s58)).mono kp).app (.cons (r8.mono kp) .nil)
    · have ej : j = its.length := by omega
      subst ej
      rw [List.drop_length] at er5
      cases er5
      rw [List.append_nil] at et5
      subst et5
      exact .inl ⟨W1.stops H5 (hG1 H5 k5), s5, acc', done ++ done', r2, eD5, ra5, er2, by rw [List.append_assoc, er]; exact et⟩
  · have ei : i = items.length := by omega
    subst ei
    rw [List.drop_length] at er
    cases er
    rw [List.append_nil] at et
    subst et
    exact .inl ⟨W.stops H (hG H (.of sm)), q H acc sm eD (by rw [ra.len]; omega) ra⟩
section
variable {X : Cx} {K : PySem.W.Frag}
theorem dE_lc2 {e : Expr} {it it1 : Rho → Option (List D)} {p p1 : Pat} {f : EF} {vs vs1 : List Nat} {μ μ1 μi pr pr1 : Bool} (h : PE X e (tLc2 (iD μ pr it) (gP K p) (tT oYes) (iD μ1 pr1 it1) (gP K p1) (tT oYes) (tD μi f) vs vs1)) (hp : p.fits pr = true := by rfl) (hs : ∀ j, j ∈ slP p → j ∈ vs := by decide) (hp1 : p1.fits pr1 = true := by rfl) (hs1 : ∀ j, j ∈ slP p1 → j ∈ vs1 := by decide) : PE X e (tD μ (eLc2 μ vs vs1 it p p1 it1 f)) := h.wk fun σ H Q q => by
  obtain ⟨M0, H0, ρ, d, R, e, q⟩ := q
  obtain ⟨items, ei, e⟩ := some_bind e
  obtain ⟨res, er, e⟩ := some_bind e
  obtain ⟨l, rfl⟩ := iteS e
  exact ⟨M0, H0, ρ, items, R, ei, fun J H1 s1 dw D hD => lc2Core (R.mono s1) dw hD hp hs hp1 hs1 er l fun H2 acc s2 eD la ra => q _ _ (s1.trans s2) (.lst eD (((R.mono s1).domu μ).not hD) la (ra.reM fun a m => .inl (.inl m)))⟩
/-! ### a list of one's own, put otherwise at a place -/
def swPut (i : Nat) (f fi : WP D) : WP Out := ⟨fun ρ b Q => f.w ρ b fun d b1 => ∃ ds, ρ[i]? = some (some (.own ds)) ∧ fi.w ρ b1 fun x b2 => ∃ k j, x = .int k ∧ ixN ds.length k = some j ∧ Q (.nx (ρ.set i (some (.own (ds.set j d))))) b2, fun h z => f.m (fun d b1 ⟨ds, e, y⟩ => ⟨ds, e, fi.m (fun x b2 ⟨k, j, e1, e2, y⟩ => ⟨k, j, e1, e2, h _ _ y⟩) y⟩) z⟩
theorem nS_put {st : Stmt} {i : Nat} {f fi : WP D} (h : PS X st (tAsg (tn f) (gSub (tVar i) (tn fi) rSetLL))) : PS X st (tSn (swPut i f fi)) := h.wk fun Dn σ H q => by
  obtain ⟨g, M0, H0, ρ, b, R, q⟩ := q
  refine ⟨g, M0, H0, ρ, b, R, f.m (fun d b1 ⟨ds, z, q⟩ v H1 k1 i1 r1 => ?_) q⟩
  have R1 := R.up k1 i1
  obtain ⟨p, vs, a, c, h0, l, r⟩ := R1.own i ds z
  refine ⟨.ref p, a, g, M0, H0, ρ, b1, R1, fi.m (fun x b2 ⟨k, j, ex, ij, q⟩ y H2 k2 i2 r2 => ?_) q⟩
  subst ex
  cases r2
  have kk : KpM (Mu true M0 σ ρ) H1 H2 := fun p o n e => k2 p o (fun z => n (.inl (R.pl p z))) e
  have c2 := k2 _ _ (fun o => R.dom0 p (R.pl p o) h0) c
  refine ⟨p, vs, k, j, rfl, rfl, c2, by rw [r.len]; exact ij, fun H3 e3 => ?_⟩
  subst e3
  obtain ⟨R3, S3⟩ := (R1.up k2 i2).ownSet z a c2 (vs' := vs.set j v) (by rw [List.length_set]; exact l) (RpAll.set (r1.mono kk) j (r.mono kk))
  exact q _ _ R3 (((R.stp k1).trans (R1.stp k2)).trans S3)
/-- [x] * n, a new list -/
def mulL : D → D → Option D
  | .list ds, .int k => if 0 ≤ k ∧ k ≤ 1000 ∧ ds.length ≤ 1000 then some (.list (List.replicate k.toNat ds).flatten) else none
  | _, _ => none
theorem oE_rep {a b : Expr} {pos : Pos} {f1 f2 : EF} (ha : PE X a (tD true f1)) (hb : PE X b (tD true f2)) : PE X (.BinOp a .Mult b pos) (tN (e2 mulL f1 f2)) := (pe_op op_rep ha hb).wk fun σ H Q q => by
  obtain ⟨M0, H0, ρ, ds, R, e, q⟩ := q
  obtain ⟨d1, e1, ea⟩ := some_bind e
  obtain ⟨d2, e2, eb⟩ := some_bind ea
  clear e ea
  refine ⟨M0, H0, ρ, d1, R, e1, fun v1 H1 s1 r1 => ⟨M0, H0, ρ, d2, R.mono s1, e2, fun v2 H2 s2 r2 => ?_⟩⟩
  cases r1 <;> (try (cases r2 <;> cases eb; done))
  rename_i t n l r
  cases r2 <;> (try (cases eb; done))
  rename_i k
  obtain ⟨l2, e3⟩ := iteS eb
  cases e3
  have hl := r.len
  have hm : (List.length ‹List V›) * k.toNat ≤ sizeLine := by
    rw [hl]
    exact Nat.le_trans (Nat.mul_le_mul l2.2.2 (show k.toNat ≤ 1000 by omega)) (by decide)
  refine ⟨_, _, _, rfl, rfl, s2 _ _ t, by omega, by omega, hm, fun p hp => q p _ _ ?_ ((s1.trans s2).trans (smN hp)) upd_same (by rw [rep_len, Nat.mul_comm]; exact hm) ?_⟩
  · cases z : H p with
    | none => rfl
    | some o => rw [(s1.trans s2) _ _ z] at hp; cases hp
  · have k : ∀ a, Mi true M0 σ ρ p a → Mu true M0 σ ρ a ∨ H2 a = none := fun a m => by
      rcases m with m | rfl
      · exact .inl m
      · exact .inr hp
    exact (((r.mono (.of s2)).reM k).mono (.of (smN hp))).rep _
/-! ### tuples * 0, () * n -/
theorem tuple_mulE (l : Addr) (n : Nat) (dd : Option Addr) (sl : Array (Option Value)) (x : Int) (u : Tok) (c0 : (decide (x < -(2 ^ 63)) || decide (x ≥ 2 ^ 63)) = false) :
    Meets (Builtin.«tuple.__mul__» ⟨[.ref l, .int x u], []⟩) (fun _ R s => s.heap.get? l = some { cls := .type "tuple", dict := dd, data := .seq #[] n, slots := sl } ∧
      R (.ok (.ret (Value.ref l))) s) :=
  .of_wp fun prog w A R s h => by
    obtain ⟨hp, g, d, tk, os⟩ := s
    obtain ⟨hl, h⟩ := h
    have f1 := AutoSeq1.idx_int
    have c1 : ((#[] : Array Value).isEmpty || x == 1) = true := rfl
    wp_walk using wpAny_loadPart' hl
    repeat (first
      | (refine wpAny_ite_false (decide_eq_false (by rw [c0]; exact Bool.false_ne_true)) ?_; wp_walk using wpAny_loadPart' hl)
      | (refine wpAny_ite_true (decide_eq_true c1) ?_; wp_walk using wpAny_loadPart' hl))
    exact ⟨_, rfl, h⟩
theorem tuple_mulZ (l : Addr) (items : Array Value) (n : Nat) (dd : Option Addr) (sl : Array (Option Value)) (u : Tok) (c1 : (items.isEmpty || (0 : Int) == 1) = false) :
    Meets (Builtin.«tuple.__mul__» ⟨[.ref l, .int 0 u], []⟩) (fun _ R s => s.heap.get? l = some { cls := .type "tuple", dict := dd, data := .seq items n, slots := sl } ∧
      R (.ok (.ret (Value.ref s.heap.objs.size))) { s with heap := s.heap.push { cls := Value.type "tuple", data := Data.seq #[] }, toks := s.toks }) :=
  .of_wp fun prog w A R s h => by
    obtain ⟨hp, g, d, tk, os⟩ := s
    obtain ⟨hl, h⟩ := h
    have f1 := AutoSeq1.idx_int
    have c0 : (decide ((0 : Int) < -(2 ^ 63)) || decide ((0 : Int) ≥ 2 ^ 63)) = false := by decide
    have c2 : (decide ((0 : Int) ≤ 0) || items.isEmpty) = true := rfl
    wp_walk using wpAny_loadPart' hl
    repeat (first
      | (refine wpAny_ite_false (decide_eq_false (by rw [c0]; exact Bool.false_ne_true)) ?_; wp_walk using wpAny_loadPart' hl)
      | (refine wpAny_ite_false (decide_eq_false (by rw [c1]; exact Bool.false_ne_true)) ?_; wp_walk using wpAny_loadPart' hl)
      | (refine wpAny_ite_true (decide_eq_true c2) ?_; wp_walk using wpAny_loadPart' hl))
    exact ⟨_, rfl, h⟩
end
end Dl
namespace Dl
open PySem PySem.Spec PyProof.Rows L2 Rt
section
variable {X : Cx} {K : PySem.W.Frag}
def mulY : D → D → Option D
  | .tuple ds, .int k => if ds.isEmpty = true ∧ 0 ≤ k ∧ k ≤ 1000 then some (.tuple []) else if k = 0 then some (.tuple []) else mulX (.tuple ds) (.int k)
  | a, b => mulX a b
theorem o_mulY : OpR X (binaryOp .Mult) (rD mulY) := by
  intro pn s σ H x y v u Q I rx ry h
  obtain ⟨M, a, b, d, dm, ra, rb, e, q⟩ := h
  by_cases hb : ∃ ds k, a = .tuple ds ∧ b = .int k
  · obtain ⟨ds, k, rfl, rfl⟩ := hb
    have e : (if ds.isEmpty = true ∧ 0 ≤ k ∧ k ≤ 1000 then some (PyData.tuple []) else if k = 0 then some (PyData.tuple []) else mulX (.tuple ds) (.int k)) = some d := e
    by_cases h1 : ds.isEmpty = true ∧ 0 ≤ k ∧ k ≤ 1000
    · rw [if_pos h1] at e
      cases e
      have : ds = [] := List.isEmpty_iff.mp h1.1
      subst this
      cases ra with
      | tup t n l r =>
        cases r
        cases rb
        cases rx
        obtain ⟨tk, rfl⟩ := ry
        obtain ⟨its, r, ⟨⟨cls, dd, data, sl⟩, ho, hc, m, hd⟩, hs⟩ := I.tuple (t.sq (K := X.K))
        simp only at hc hd
        subst hc hd
        cases r
        refine wpAny_binaryOp_repeat_ref (T := "tuple") (U := "int") (by decide) ⟨_, ho, rfl⟩ (fun s' => typeIs_int s' k tk) noFill_tuple_mul F.fills_int_mul F.slot_int_rmul repeat_tuple F.slot_int_index.lookup
          (call_meets F.slot_int_rmul (typeIs_int s k tk) F.entry_int_rmul (F.args_int_rmul_2 _ _) (int_rmul_tuple k tk _ _ m dd sl)
            ⟨ho, rfl, ⟨_, ho, rfl⟩, call_meets F.slot_tuple_mul ⟨_, ho, rfl⟩ F.entry_tuple_mul (F.args_tuple_mul_2 _ _) (tuple_mulE _ m dd sl k tk (by simp; omega)) ⟨ho, ?_⟩⟩)
        exact ⟨.ref _, H, I, rfl, q _ _ (Same.refl _) (.tup t n l .nil)⟩
    · rw [if_neg h1] at e
      by_cases h2 : k = 0
      · subst h2
        rw [if_pos rfl] at e
        cases e
        have hne : ds ≠ [] := fun z => h1 ⟨by rw [z]; rfl, by decide, by decide⟩
        cases ra with
        | tup t n l r =>
          cases rb
          cases rx
          obtain ⟨tk, rfl⟩ := ry
          obtain ⟨its, r2, ⟨⟨cls, dd, data, sl⟩, ho, hc, m, hd⟩, hs⟩ := I.tuple (t.sq (K := X.K))
          simp only at hc hd
          subst hc hd
          have ie : (its.toArray.isEmpty || (0 : Int) == 1) = false := by
            cases its with
            | nil =>
              cases r2
              cases r
              exact (hne rfl).elim
            | cons a b => rfl
          refine wpAny_binaryOp_repeat_ref (T := "tuple") (U := "int") (by decide) ⟨_, ho, rfl⟩ (fun s' => typeIs_int s' 0 tk) noFill_tuple_mul F.fills_int_mul F.slot_int_rmul repeat_tuple F.slot_int_index.lookup
            (call_meets F.slot_int_rmul (typeIs_int s 0 tk) F.entry_int_rmul (F.args_int_rmul_2 _ _) (int_rmul_tuple 0 tk _ _ m dd sl)
              ⟨ho, rfl, ⟨_, ho, rfl⟩, call_meets F.slot_tuple_mul ⟨_, ho, rfl⟩ F.entry_tuple_mul (F.args_tuple_mul_2 _ _) (tuple_mulZ _ its.toArray m dd sl tk ie) ⟨ho, ?_⟩⟩)
          have fr := I.hok.fresh (Nat.le_refl s.heap.objs.size)
          have J := Inv.tupF I (us := []) (xs := []) .nil (Nat.zero_le _)
          exact ⟨.ref s.heap.objs.size, _, J, rfl, q _ _ (smN fr) (.tup ⟨_, upd_same, rfl⟩ (dm.not fr) (Nat.zero_le _) .nil)⟩
      · rw [if_neg h2] at e
        exact o_mulX pn s σ H _ _ v u Q I rx ry ⟨M, _, _, d, dm, ra, rb, e, q⟩
  · refine o_mulX pn s σ H _ _ v u Q I rx ry ⟨M, a, b, d, dm, ra, rb, ?_, q⟩
    unfold mulY at e
    split at e
    · exact (hb ⟨_, _, rfl, rfl⟩).elim
    · exact e
/-- str of a number -/
def strD : List D → Option D
  | [.int i] => if i.natAbs < 10 ^ 30 then some (.str (Str.ofString (toString i))) else none
  | _ => none
theorem c_strI : CallR X (.type "str") (rC strD) := by
  intro pn s σ H xs us Q I r h
  obtain ⟨M, ds, d, dm, ra, e, q⟩ := h
  match ds, ra, e with
  | [.int i], .cons rx .nil, e =>
    cases rx
    obtain ⟨l, rfl⟩ := iteS e
    refine call_str_int pn s σ H _ us Q I r ⟨i, rfl, Nat.lt_trans (log30 l) (by decide), q _ _ (Same.refl _) (.str _ ?_)⟩
    have := int_text_length_le10 (a := i) (k := 30) (by decide) l
    show (Str.ofString (toString i)).length ≤ sizeLine
    rw [PySem.ofString_length]
    exact Nat.le_trans this (by decide)
/-- sorted, the greatest first -/
def sortR (ns : List Int) : List Int := ns.mergeSort fun a b => decide (b ≤ a)
theorem sortR_perm (ns : List Int) : (sortR ns).Perm ns := List.mergeSort_perm ns _
theorem sortR_pw (ns : List Int) : (sortR ns).Pairwise (· ≥ ·) := by
  have := List.pairwise_mergeSort (le := fun a b : Int => decide (b ≤ a)) (fun a b c h1 h2 => by simp at *; omega) (fun a b => by simp; omega) ns
  exact this.imp fun h => by simpa using h
theorem pw_uniq : ∀ {a b : List Int}, a.Perm b → a.Pairwise (· ≥ ·) → b.Pairwise (· ≥ ·) → a = b
  | [], b, p, _, _ => (List.nil_perm.mp p).symm
  | x :: a, [], p, _, _ => absurd p.length_eq (by simp)
  | x :: a, y :: b, p, ha, hb => by
    have h1 := List.pairwise_cons.mp ha
    have h2 := List.pairwise_cons.mp hb
    have e : x = y := by
      have m1 : x ∈ y :: b := p.mem_iff.mp List.mem_cons_self
      have m2 : y ∈ x :: a := p.mem_iff.mpr List.mem_cons_self
      rcases List.mem_cons.mp m1 with e | m1
      · exact e
      · rcases List.mem_cons.mp m2 with e | m2
        · exact e.symm
        · have := h1.1 y m2
          have := h2.1 x m1
          omega
    subst e
    rw [pw_uniq ((List.perm_cons _).mp p) h1.2 h2.2]
def sorD : D → Option D
  | .list ds => (intsD ds).map fun ns => .list ((sortR ns).map .int)
  | _ => none
theorem ints_rp {M : Addr → Prop} {H : Hp} : ∀ ns : List Int, RpAll M H (ns.map V.int) (ns.map PyData.int)
  | [] => .nil
  | n :: ns => .cons (.int n) (ints_rp ns)
theorem dE_sorR {e : Expr} {p pos kpos cpos : Pos} {k : Nat} {f : EF} {μ : Bool} (h : PE X e (tD μ f)) (hg : Gl X "sorted") (hm : X.mg "sorted" = none) (he : starEach [e] X.env = (false, eval e X.env) :: starEach [] X.env := by rfl)
    (he2 : backTo pos (starEach [e] X.env) = (false, eval e X.env) :: backTo pos (starEach [] X.env) := by rfl) (hpl : (backTo pos (starEach [e] X.env)).any (·.1) = false := by rfl) :
    PE X (.Call (.Name "sorted" p) [e] [⟨some "reverse", .Constant (.bool true) k cpos, kpos⟩] pos) (tD μ (e1 sorD f)) := (pe_callBK cr_sortedRev hg hm (by decide +kernel) (pa_cons h pa_nil he) (pk_cons (pe_bl (b := true)) pk_nil) (he := he2) (hpl := hpl)).wk fun σ H Q q => by
  obtain ⟨M0, H0, ρ, d, R, e, q⟩ := q
  obtain ⟨d1, e1, eb⟩ := some_bind e
  clear e
  refine ⟨M0, H0, ρ, d1, R, e1, fun v H1 s1 r1 => ?_⟩
  cases r1 <;> (try (cases eb; done))
  rename_i t n l r
  obtain ⟨ns, en, rfl⟩ := some_map eb
  have hv := r.ints en
  subst hv
  refine ⟨_, ns, rfl, rfl, SqL.of t, fun ns' a pm od np => ?_⟩
  have : ns' = sortR ns := pw_uniq (pm.trans (sortR_perm ns).symm) od (sortR_pw ns)
  subst this
  exact q _ _ (s1.trans (smN np)) (.lst upd_same (((R.mono s1).domu μ).not np) (by rw [List.length_map, (sortR_perm ns).length_eq, ← List.length_map (f := V.int)]; exact l) (ints_rp _))
/-- a call of a def that shows something -/
theorem dE_clG {k n : Nat} {x : Str} {ps : List Str} {g : List D → Option D} {p pos : Pos} {e : Expr} {es : List Expr} {f : Rho → Option (List D)} {μ : Bool} (C : ClG X.prog X.w X.K X.mg X.base k x ps (spD n g)) (hr : Room k X.A) (free : X.A.guards = some []) (hg : Gl X x) (ha : PA X (e :: es) (tA μ f))
    (hdb : (x == ("__debug__" : Str)) = false := by decide) (he : starEach (e :: es) X.env = (false, eval e X.env) :: starEach es X.env := by rfl) (hpl : (backTo pos (starEach es X.env)).any (·.1) = false := by rfl) :
    PE X (.Call (.Name x p) (e :: es) [] pos) (tD μ (eCall (gN n g) f)) := (pe_clG C hr free hg ha hdb he hpl).wk fun σ H Q q => by
  obtain ⟨M0, H0, ρ, d, R, e, q⟩ := q
  obtain ⟨ds, ed, e⟩ := some_bind e
  refine ⟨M0, H0, ρ, ds, R, ed, fun vs H1 s1 r1 => ?_⟩
  unfold gN at e
  split at e
  · rename_i l
    rw [List.append_nil]
    exact ⟨_, ds, d, (R.mono s1).domu μ, r1, l, e, fun v H2 s2 r2 => q v H2 (s1.trans s2) r2⟩
  · cases e
end
end Dl
namespace Dl
open PySem PySem.Spec PyProof.Rows L2 Rt
section
variable {X : Cx} {K : PySem.W.Frag}
def neX : D → D → Option D
  | .list ds, .list [] => neL0 (.list ds) (.list [])
  | a, b => neD a b
theorem o_neX (hu : X.A.units + 64 < cLine) : OpR X (compareOp .NotEq) (rD neX) := by
  intro pn s σ H x y v u Q I rx ry h
  obtain ⟨M, a, b, d, dm, ra, rb, e, q⟩ := h
  unfold neX at e
  split at e
  · exact o_neL0 hu pn s σ H _ _ v u Q I rx ry ⟨M, _, _, d, dm, ra, rb, e, q⟩
  · exact o_ne hu pn s σ H _ _ v u Q I rx ry ⟨M, _, _, d, dm, ra, rb, e, q⟩
/-- a list + a list, a new one -/
def catL : D → D → Option D
  | .list a, .list b => if a.length + b.length ≤ sizeLine then some (.list (a ++ b)) else none
  | _, _ => none
theorem oE_catD {a b : Expr} {pos : Pos} {f1 f2 : EF} (ha : PE X a (tD true f1)) (hb : PE X b (tD true f2)) : PE X (.BinOp a .Add b pos) (tN (e2 catL f1 f2)) := (pe_op op_cat ha hb).wk fun σ H Q q => by
  obtain ⟨M0, H0, ρ, ds, R, e, q⟩ := q
  obtain ⟨d1, e1, ea⟩ := some_bind e
  obtain ⟨d2, e2, eb⟩ := some_bind ea
  clear e ea
  refine ⟨M0, H0, ρ, d1, R, e1, fun v1 H1 s1 r1 => ⟨M0, H0, ρ, d2, R.mono s1, e2, fun v2 H2 s2 r2 => ?_⟩⟩
  cases r1 <;> (try (cases r2 <;> cases eb; done))
  rename_i t n l r
  cases r2 <;> (try (cases eb; done))
  rename_i t2 n2 l2 r2
  obtain ⟨l3, e3⟩ := iteS eb
  cases e3
  refine ⟨_, _, _, _, rfl, rfl, s2 _ _ t, t2, by rw [r.len, r2.len]; exact l3, fun p hp => q p _ _ ?_ ((s1.trans s2).trans (smN hp)) upd_same (by rw [List.length_append, r.len, r2.len]; exact l3) ?_⟩
  · cases z : H p with
    | none => rfl
    | some o => rw [(s1.trans s2) _ _ z] at hp; cases hp
  · have k : ∀ a, Mi true M0 σ ρ p a → Mu true M0 σ ρ a ∨ H2 a = none := fun a m => by
      rcases m with m | rfl
      · exact .inl m
      · exact .inr hp
    exact (((r.mono (.of s2)).reM k).mono (.of (smN hp))).app ((r2.reM k).mono (.of (smN hp)))
def eqT0 : D → D → Option D
  | .tuple ds, .tuple [] => some (.bool ds.isEmpty)
  | _, _ => none
theorem o_eqT0 (hu : X.A.units + 64 < cLine) : OpR X (compareOp .Eq) (rD eqT0) := by
  intro pn s σ H x y v u Q I rx ry h
  obtain ⟨M, a, b, d, dm, ra, rb, e, q⟩ := h
  cases ra <;> (try (cases rb <;> cases e; done))
  rename_i xs ds t n l r
  cases rb <;> (try (cases e; done))
  rename_i xs2 ds2 t2 n2 l2 r2
  cases r2 <;> (try (cases e; done))
  cases e
  cases rx
  cases ry
  obtain ⟨its, vi, it, _⟩ := I.tuple t.sq
  obtain ⟨its2, vi2, it2, _⟩ := I.tuple t2.sq
  cases vi2
  refine SeqAt.RcAt.tuples (e := fun _ => true) it it2 (by omega) (fun j _ h2 => absurd h2 (by simp)) _ _ _ _ ⟨.bl _, H, I, ?_, q _ _ (Same.refl _) (.bl _)⟩
  show Value.bool _ = Value.bool _
  congr 1
  cases r <;> cases vi <;> simp
def eqX : D → D → Option D
  | .tuple ds, .tuple [] => eqT0 (.tuple ds) (.tuple [])
  | a, b => eqD a b
theorem o_eqX (hu : X.A.units + 64 < cLine) : OpR X (compareOp .Eq) (rD eqX) := by
  intro pn s σ H x y v u Q I rx ry h
  obtain ⟨M, a, b, d, dm, ra, rb, e, q⟩ := h
  unfold eqX at e
  split at e
  · exact o_eqT0 hu pn s σ H _ _ v u Q I rx ry ⟨M, _, _, d, dm, ra, rb, e, q⟩
  · exact o_eq hu pn s σ H _ _ v u Q I rx ry ⟨M, _, _, d, dm, ra, rb, e, q⟩
def eqS' : D → D → Option D
  | .str a, .str b => some (.bool (a == b))
  | _, _ => none
theorem o_eqS (hu : X.A.units + 64 < cLine) : OpR X (compareOp .Eq) (rD eqS') := by
  intro pn s σ H x y v u Q I rx ry h
  obtain ⟨M, a, b, d, dm, ra, rb, e, q⟩ := h
  cases ra <;> (try (cases rb <;> cases e; done))
  cases rb <;> (try (cases e; done))
  cases e
  obtain ⟨t, rfl⟩ := rx
  obtain ⟨t', rfl⟩ := ry
  exact SeqAt.RcAt.str_str _ _ _ _ _ _ _ _ ⟨.bl _, H, I, rfl, q _ _ (Same.refl _) (.bl _)⟩
end
end Dl
namespace Dl
open PySem PySem.Spec PyProof.Rows L2 Rt
section
variable {X : Cx} {K : PySem.W.Frag}
/-- a list beside [] -/
def eqL0 : D → D → Option D
  | .list ds, .list [] => some (.bool ds.isEmpty)
  | _, _ => none
theorem o_eqL0 (hu : X.A.units + 64 < cLine) : OpR X (compareOp .Eq) (rD eqL0) := by
  intro pn s σ H x y v u Q I rx ry h
  obtain ⟨M, a, b, d, dm, ra, rb, e, q⟩ := h
  cases ra <;> (try (cases rb <;> cases e; done))
  rename_i xs ds t n l r
  cases rb <;> (try (cases e; done))
  rename_i xs2 ds2 t2 n2 l2 r2
  cases r2 <;> (try (cases e; done))
  cases e
  cases rx
  cases ry
  obtain ⟨_, its, k, vi, g⟩ := I.hok _ _ t
  obtain ⟨_, its2, k2, vi2, g2⟩ := I.hok _ _ t2
  cases vi2
  cases r with
  | nil =>
    cases vi
    refine SeqAt.RcAt.lists (e := fun _ => true) ⟨_, g, rfl, _, rfl⟩ ⟨_, g2, rfl, _, rfl⟩ rfl (by omega) (fun j h1 _ => absurd h1 (by simp)) _ _ _ _ ⟨.bl _, H, I, ?_, q _ _ (Same.refl _) (.bl _)⟩
    show Value.bool _ = Value.bool _
    simp
  | cons h1 h2 =>
    cases vi
    refine SeqAt.RcAt.lists_lengths ⟨_, g, rfl, _, rfl⟩ ⟨_, g2, rfl, _, rfl⟩ (by simp) (by omega) _ _ _ _ ⟨.bl _, H, I, ?_, q _ _ (Same.refl _) (.bl _)⟩
    rfl
/-- == and != : beside (), [], a text whatever stands there; else by data -/
def eqZ : D → D → Option D
  | .tuple ds, .tuple [] => eqT0 (.tuple ds) (.tuple [])
  | .list ds, .list [] => eqL0 (.list ds) (.list [])
  | a, b => eqD a b
theorem o_eqZ (hu : X.A.units + 64 < cLine) : OpR X (compareOp .Eq) (rD eqZ) := by
  intro pn s σ H x y v u Q I rx ry h
  obtain ⟨M, a, b, d, dm, ra, rb, e, q⟩ := h
  unfold eqZ at e
  split at e
  · exact o_eqT0 hu pn s σ H _ _ v u Q I rx ry ⟨M, _, _, d, dm, ra, rb, e, q⟩
  · exact o_eqL0 hu pn s σ H _ _ v u Q I rx ry ⟨M, _, _, d, dm, ra, rb, e, q⟩
  · exact o_eq hu pn s σ H _ _ v u Q I rx ry ⟨M, _, _, d, dm, ra, rb, e, q⟩
def neZ : D → D → Option D
  | .tuple ds, .tuple [] => neT0 (.tuple ds) (.tuple [])
  | .list ds, .list [] => neL0 (.list ds) (.list [])
  | a, b => neQ a b
theorem o_neZ (hu : X.A.units + 64 < cLine) : OpR X (compareOp .NotEq) (rD neZ) := by
  intro pn s σ H x y v u Q I rx ry h
  obtain ⟨M, a, b, d, dm, ra, rb, e, q⟩ := h
  unfold neZ at e
  split at e
  · exact o_neT0 hu pn s σ H _ _ v u Q I rx ry ⟨M, _, _, d, dm, ra, rb, e, q⟩
  · exact o_neL0 hu pn s σ H _ _ v u Q I rx ry ⟨M, _, _, d, dm, ra, rb, e, q⟩
  · exact o_neQ hu pn s σ H _ _ v u Q I rx ry ⟨M, _, _, d, dm, ra, rb, e, q⟩
/-- list(range(a, b)) -/
def eLstRg2 (f g : EF) : EF := fun ρ => (f ρ).bind fun a => (g ρ).bind fun b => match a, b with
  | .int i, .int j => if -(2 ^ 62) ≤ i ∧ i < 2 ^ 62 ∧ -(2 ^ 62) ≤ j ∧ j < 2 ^ 62 ∧ j - i < 2 ^ 20 then some (.list (rgD i (j - i).toNat)) else none
  | _, _ => none
theorem rgV_rp2 {M : Addr → Prop} {H : Hp} (i j : Int) : RpAll M H (rgV i j) (rgD i (j - i).toNat) := by
  unfold rgV rgD
  induction (List.range (j - i).toNat) with
  | nil => exact .nil
  | cons i r ih => exact .cons (.int _) ih
theorem dE_lstRg2 {e1 e2 : Expr} {p pos p2 pos2 : Pos} {f g : EF} {μ : Bool} (hc : X.calm = true) (hg : Gl X "list") (hm : X.mg "list" = none) (hg2 : Gl X "range") (hm2 : X.mg "range" = none) (h1 : PE X e1 (tD μ f)) (h2 : PE X e2 (tD μ g))
    (na : starEach [(Expr.Call (.Name "range" p2) [e1, e2] [] pos2)] X.env = (false, eval (Expr.Call (.Name "range" p2) [e1, e2] [] pos2) X.env) :: starEach [] X.env := by rfl)
    (nb : starEach [e1, e2] X.env = (false, eval e1 X.env) :: starEach [e2] X.env := by rfl) (nc : starEach [e2] X.env = (false, eval e2 X.env) :: starEach [] X.env := by rfl) (hp : (backTo pos2 (starEach [e2] X.env)).any (·.1) = false := by rfl) :
    PE X (.Call (.Name "list" p) [.Call (.Name "range" p2) [e1, e2] [] pos2] [] pos) (tD μ (eLstRg2 f g)) := (pe_listRg hc hg hm (prg_2 hg2 hm2 h1 h2 nb nc hp) na).wk fun σ H Q q => by
  obtain ⟨M0, H0, ρ, d, R, e, q⟩ := q
  obtain ⟨a, ea, e'⟩ := some_bind e
  obtain ⟨b, eb, e''⟩ := some_bind e'
  clear e e'
  refine ⟨M0, H0, ρ, a, R, ea, fun x H1 s1 r1 => ⟨M0, H0, ρ, b, R.mono s1, eb, fun y H2 s2 r2 => ?_⟩⟩
  cases a <;> try (cases e''; done)
  cases b <;> try (cases e''; done)
  rename_i i j
  obtain ⟨l, rfl⟩ := iteS e''
  cases r1
  cases r2
  exact ⟨i, j, rfl, rfl, ⟨l.1, l.2.1, l.2.2.1, l.2.2.2.1, by omega⟩, fun q' np => q _ _ ((s1.trans s2).trans (smN np)) (.lst upd_same (((R.mono (s1.trans s2)).domu μ).not np) (by rw [rgV_length]; exact szR (by omega)) (rgV_rp2 i j))⟩
/-- a new list that may be made by looking at lists of one's own -/
def wFr (f : EF) : WP D := ⟨fun ρ b Q => ∃ ds, f (shutR false ρ) = some (.list ds) ∧ nlAll ds = true ∧ Q (.list ds) b, fun h ⟨d, e, n, q⟩ => ⟨d, e, n, h _ _ q⟩⟩
theorem nFr {f : EF} {σ : L2.St} {H : Hp} {Q : VK} (q : tn (wFr f) σ H Q) : tN f σ H Q := by
  obtain ⟨g, M0, H0, ρ, b, R, ds, e, n, q⟩ := q
  refine ⟨_, H, _, ds, R.rs false, e, fun p vs H' np s eH l r => q _ H' (.of s) (Pl.same R.iv s) (.lst eH ((R.domu true).not np) l ((r.reM (M' := M0) fun a m => .inl (.inl (.inl (.inl m)))).nl n fun a m => ?_))⟩
  rcases m with m | ⟨_, i, ds, e1, e2⟩
  · exact .inl m
  · obtain ⟨p, vs, x, y, _⟩ := (R.mono s).own i ds e1
    rw [e2] at x
    cases x
    exact .inr ⟨_, y⟩
theorem nS_lcL {st : Stmt} {i : Nat} {it : Rho → Option (List D)} {p : Pat} {c : Rho → Option Bool} {f : EF} {vs : List Nat} {μi pr : Bool} (h : PS X st (tAsg (tLc (iD true pr it) (gP K p) (tT c) (tD μi f) vs) (gName i))) (hp : p.fits pr = true := by rfl) (hs : ∀ j, j ∈ slP p → j ∈ vs := by decide) : PS X st (tSn (swAsg (.nm i) (wFr (eLc true vs it p c f)))) :=
  nS_asg (K := K) (h.wk fun Dn σ H q => nLc hp hs (nFr q))
/-- a, b = two new lists, through a tuple -/
def swParT (i j : Nat) (f g : EF) : WP Out := ⟨fun ρ b Q => ∃ ds es, f (shutR true ρ) = some (.list ds) ∧ g (shutR true ρ) = some (.list es) ∧ i < ρ.length ∧ j < ρ.length ∧ i ≠ j ∧ Q (.nx ((ρ.set i (some (.own ds))).set j (some (.own es)))) b, fun h ⟨ds, es, a, b, c, d, n, q⟩ => ⟨ds, es, a, b, c, d, n, h _ _ q⟩⟩
theorem nS_parT {st : Stmt} {i j : Nat} {f g : EF} (h : PS X st (tAsg (tTupF (tCons (tN f) (tCons (tN g) tNil))) (gP K (.tp (.cons (.nm i) (.cons (.nm j) .nil)))))) : PS X st (tSn (swParT i j f g)) := h.wk fun Dn σ H q => by
  obtain ⟨pl, M0, H0, ρ, b, R, ds, es, ef, eg, hi, hj, hij, q⟩ := q
  have Rs1 := R.rs true
  refine ⟨_, H, _, ds, Rs1, ef, fun p1 vs H1 np1 s1 eH1 l1 r1 => ?_⟩
  have no : ∀ a, Mu true (fun a => Mu true M0 σ ρ a ∨ a = p1) σ (shutR true ρ) a → Mu true M0 σ ρ a ∨ a = p1 := fun a m => by
    rcases m with m | ⟨_, i, ds, e, _⟩
    · exact m
    · exact (shut_nown e).elim
  have Rs2 : Rs (fun a => Mu true M0 σ ρ a ∨ a = p1) H1 H1 σ (shutR true ρ) := by
    refine ⟨Same.refl _, fun p m => ?_, Rs1.len, fun k d e => ?_, fun k ds e => (shut_nown e).elim, Rs1.raw, fun k l a b p e => (shut_nown e).elim⟩
    · rcases m with m | rfl
      · exact ((R.domu true).mono s1) p m
      · rw [eH1]; intro z; cases z
    · obtain ⟨v, a, c⟩ := Rs1.dat k d e
      refine ⟨v, a, (c.reM fun a m => ?_).mono (.of s1)⟩
      rcases no a m with m | rfl
      · exact .inl (.inl m)
      · exact .inr np1
  refine ⟨_, H1, _, es, Rs2, eg, fun p2 ws H2 np2 s2 eH2 l2 r2 => ?_⟩
  refine ⟨by show 2 ≤ sizeLine; decide, fun p3 H3 np3 s3 t3 => ⟨p3, _, rfl, t3.sq, rfl, _, _, rfl, _, _, rfl, rfl, ?_⟩⟩
  obtain ⟨R1, st1⟩ := R.ownNew (i := i) hi np1 (.of s1) (Pl.same R.iv s1) eH1 l1 (r1.reM fun a m => by
    rcases m with m | rfl
    · exact .inl (.inl (.inl m))
    · exact .inl (.inr rfl))
  obtain ⟨R2, st2⟩ := R1.ownNew (i := j) (by rw [List.length_set]; exact hj) np2 (.of s2) (Pl.same R1.iv s2) eH2 l2 (r2.reM fun a m => by
    rcases m with m | rfl
    · refine .inl (.inl (.inl ?_))
      rcases m with m | ⟨_, k, es', e1, e2⟩
      · exact .inl (.inl m)
      · rcases set_get e1 with ⟨rfl, _⟩ | ⟨n, e1⟩
        · rw [set_same (by rw [← R.len]; exact hi)] at e2
          cases e2
          exact .inr rfl
        · rw [set_other n] at e2
          exact .inl (.inr ⟨rfl, k, es', e1, e2⟩)
    · exact .inl (.inr rfl))
  exact q _ H3 (R2.mono s3) ((st1.trans st2).trans ⟨.of s3, fun p m => .inl m⟩)
/-- a, b = a list of two -/
def swAsgL (ps : Pats) (f : WP D) : WP Out := ⟨fun ρ b Q => f.w ρ b fun d b' => ∃ ds ρ1, d = .list ds ∧ bindPs ps ds ρ = some ρ1 ∧ Q (.nx ρ1) b', fun h z => f.m (fun d b' ⟨ds, ρ1, e, e1, y⟩ => ⟨ds, ρ1, e, e1, h _ _ y⟩) z⟩
theorem nS_asgL {st : Stmt} {ps : Pats} {f : WP D} (h : PS X st (tAsg (tn f) (gLst K ps.len (gPs K ps)))) : PS X st (tSn (swAsgL ps f)) := h.wk fun Dn σ H q => by
  obtain ⟨g, M0, H0, ρ, b, R, q⟩ := q
  refine ⟨g, M0, H0, ρ, b, R, f.m (fun d b' ⟨ds, ρ1, e, e1, q⟩ v H1 k1 i1 r1 => ?_) q⟩
  subst e
  cases r1
  rename_i a xs t n l r
  exact ⟨_, xs, rfl, SqL.of t, by rw [r.len]; exact bindPs.len e1, bindPs.okN (R.up k1 i1) r e1 fun σ1 R1 B1 => q σ1 H1 R1 ((R.stp k1).trans ⟨.refl, fun p m => .inl (B1.mu p m)⟩)⟩
def sAsgL (ps : Pats) (f : EF) : Rho → Option Out := fun ρ => (f ρ).bind fun d => match d with
  | .list ds => (bindPs ps ds ρ).map .nx
  | _ => none
theorem dS_asgL {st : Stmt} {ps : Pats} {f : EF} (h : PS X st (tAsg (tD true f) (gLst K ps.len (gPs K ps)))) : PS X st (tS (sAsgL ps f)) := h.wk fun Dn σ H q => by
  obtain ⟨M0, H0, ρ, o, R, e, q⟩ := q
  obtain ⟨d, ed, e'⟩ := some_bind e
  clear e
  refine ⟨M0, H0, ρ, d, R, ed, fun v H1 s1 r1 => ?_⟩
  cases d <;> try (cases e'; done)
  obtain ⟨ρ1, e1, rfl⟩ := some_map e'
  cases r1
  rename_i a xs t n l r
  exact ⟨_, xs, rfl, SqL.of t, by rw [r.len]; exact bindPs.len e1, bindPs.ok (R.mono s1) r e1 fun σ1 R1 B1 => q σ1 H1 R1 ⟨.of s1, fun p m => .inl (B1.mu p m)⟩⟩
theorem ev_asgL {ps : Pats} {f : EF} {g : Rho → Option Out} {ρ ρ' : Rho} {ds : List D} (hf : f ρ = some (.list ds)) (hb : bindPs ps ds ρ = some ρ') : sSeq (sAsgL ps f) g ρ = g ρ' := by
  unfold sSeq sAsgL
  rw [hf]
  show ((bindPs ps ds ρ).map Out.nx).bind _ = _
  rw [hb]
  rfl
/-- a walk over a list that is drawn -/
def lisI : D → Option (List D)
  | .list ds => some ds
  | _ => none
theorem nI_lst {tg e : Expr} {f : WP D} (h : PE X e (tn f)) : PI X tg e (inn false (wB f lisI)) := (pi_list h).wk fun σ H R q => by
  obtain ⟨p, M0, H0, ρ, b, Rr, q⟩ := q
  refine ⟨p, M0, H0, ρ, b, Rr, f.m (fun d b1 ⟨ds, e, q⟩ v H1 k1 i1 r1 => ?_) q⟩
  cases d <;> try (cases e; done)
  cases e
  cases r1 with
  | lst t n l r => exact ⟨_, rfl, ⟨_, SqL.of t⟩, q _ _ k1 i1 fun M' hM => DW.lst t (nM hM n t) l (r.reM hM)⟩
/-- a statement that is never come to -/
def sNo : Rho → Option Out := fun _ => none
theorem dS_no {st : Stmt} : PS X st (tS sNo) := ⟨fun pn s σ H Q I q => by
  obtain ⟨M0, H0, ρ, o, R, e, q⟩ := q
  cases e⟩
end
end Dl
namespace Dl
open PySem PySem.Spec PyProof.Rows L2 Rt
/-! ### t.index(z), the least and the greatest of a tuple -/
def strsD : List D → Option (List Str)
  | [] => some []
  | .str z :: ds => (strsD ds).map (z :: ·)
  | _ :: _ => none
def firstI (z : Str) : List Str → Option Nat
  | [] => none
  | y :: ys => if y = z then some 0 else (firstI z ys).map (· + 1)
def idxD : D → D → Option D
  | .tuple ds, .str z => (strsD ds).bind fun zs => (firstI z zs).map fun j => .int (j : Nat)
  | _, _ => none
theorem firstI.spec {z : Str} : ∀ {ys : List Str} {j : Nat}, firstI z ys = some j → ys[j]? = some z ∧ ∀ m, m < j → ys[m]? ≠ some z
  | [], _, h => nomatch h
  | y :: ys, j, h => by
    unfold firstI at h
    by_cases e : y = z
    · rw [if_pos e] at h
      cases h
      exact ⟨by rw [e]; rfl, fun m h => absurd h (Nat.not_lt_zero _)⟩
    · rw [if_neg e] at h
      obtain ⟨k, hk, rfl⟩ := some_map h
      have ih := firstI.spec hk
      refine ⟨ih.1, fun m hm => ?_⟩
      cases m with
      | zero => intro c; cases c; exact e rfl
      | succ m => exact ih.2 m (by omega)
theorem strsD.map (zs : List Str) : strsD (zs.map PyData.str) = some zs := by
  induction zs with
  | nil => rfl
  | cons z zs ih =>
    show (strsD (zs.map PyData.str)).map _ = _
    rw [ih]
    rfl
theorem firstI.has {z : Str} : ∀ {ys : List Str}, z ∈ ys → ∃ j, firstI z ys = some j ∧ j < ys.length
  | y :: ys, h => by
    unfold firstI
    by_cases e : y = z
    · exact ⟨0, if_pos e, by simp⟩
    · rw [if_neg e]
      rcases List.mem_cons.mp h with h | h
      · exact absurd h.symm e
      · obtain ⟨j, hj, l⟩ := firstI.has h
        exact ⟨j + 1, by rw [hj]; rfl, by rw [List.length_cons]; omega⟩
theorem RpAll.strs {M : Addr → Prop} {H : Hp} : ∀ {vs : List V} {ds : List D} {zs : List Str}, RpAll M H vs ds → strsD ds = some zs → vs = zs.map V.str
  | _, _, _, .nil, h => by cases h; rfl
  | _, _, _, .cons (d := d) r rr, h => by
    cases r <;> try (cases h; done)
    rename_i x hx
    obtain ⟨zs, hz, rfl⟩ := some_map (show (strsD _).map _ = _ from h)
    rw [rr.strs hz]
    rfl
section
variable {X : Cx}
theorem dE_idx {ob e : Expr} {apos cpos : Pos} {f1 f2 : EF} {μ : Bool} (ho : PE X ob (tD μ f1)) (ha : PE X e (tD μ f2))
    (hbase : attributeBase ob "index" X.env (eval ob X.env) = eval ob X.env := by rfl)
    (hfew : ((backTo cpos (starEach [e] X.env)).all (fun x => !x.1) && (backToKw cpos (keywordEach [] X.env)).all (fun x => x.1.isSome) && decide (([e] : List Expr).length + ([] : List Keyword).length + (if ([] : List Keyword).isEmpty then 0 else 1) < 30)) = true := by rfl)
    (hline : (apos.endLine == cpos.line) = true := by rfl) (hs : starEach [e] X.env = (false, eval e X.env) :: starEach [] X.env := by rfl) (hplain : (backTo cpos (starEach [] X.env)).any (·.1) = false := by rfl) :
    PE X (.Call (.Attribute ob "index" apos) [e] [] cpos) (tD μ (e2 idxD f1 f2)) := (pe_idxF ho (dA_cons ha dA_nil hs) hbase hfew hline hs hplain).wk fun σ H Q q => by
  obtain ⟨M0, H0, ρ, d, R, e, q⟩ := q
  obtain ⟨a, ea, e⟩ := some_bind e
  obtain ⟨b, eb, e⟩ := some_bind e
  refine ⟨M0, H0, ρ, a, R, ea, fun x H1 s1 r1 => ?_⟩
  match a, b, e, r1 with
  | .tuple ds, .str z, e, .tup t n l r =>
    obtain ⟨zs, ez, e⟩ := some_bind (show (strsD ds).bind _ = some d from e)
    obtain ⟨j, hj, rfl⟩ := some_map e
    have ev := r.strs ez
    subst ev
    obtain ⟨o, ho, od⟩ := t
    refine ⟨_, o, zs, rfl, ho, od, M0, H0, ρ, [.str z], R.mono s1, ?_, fun vs H2 s2 r2 => ?_⟩
    · show (f2 ρ).bind _ = _
      rw [eb]
      rfl
    · match vs, r2 with
      | [_], .cons (.str _ _) .nil =>
        exact ⟨z, j, rfl, SqT.frz (s2 _ _ ho), (firstI.spec hj).1, (firstI.spec hj).2, q _ _ (s1.trans s2) (.int _)⟩
def minTD : List D → Option D
  | [.tuple ds] => ((intsD ds).bind leastI).map .int
  | _ => none
def maxTD : List D → Option D
  | [.tuple ds] => ((intsD ds).bind mostI).map .int
  | _ => none
theorem c_minT (hc : X.calm = true) (hu : X.A.units + 64 < cLine) : CallR X (.builtin "min") (rC minTD) := by
  intro pn s σ H xs us Q I r h
  obtain ⟨M, ds, d, dm, ra, e, q⟩ := h
  match ds, ra, e with
  | [.tuple ds], .cons (.tup t n l rr) .nil, e =>
    obtain ⟨m, em, rfl⟩ := some_map (show ((intsD ds).bind leastI).map PyData.int = some d from e)
    obtain ⟨ns, en, em⟩ := some_bind em
    have hv := rr.ints en
    subst hv
    refine cr_minT hc hu pn s σ H _ us Q I r ⟨_, ns, rfl, t.sq, ?_, fun m' hm hl => ?_⟩
    · cases ns with
      | nil => cases em
      | cons _ _ => simp
    · have : m' = m := by
        cases ns with
        | nil => cases em
        | cons x xs =>
          have e2 := foldl_least xs x m' hm hl
          have em : some (xs.foldl (fun a b => if b < a then b else a) x) = some m := em
          rw [e2] at em
          cases em
          rfl
      subst this
      exact q _ _ (Same.refl _) (.int _)
theorem c_maxT (hc : X.calm = true) (hu : X.A.units + 64 < cLine) : CallR X (.builtin "max") (rC maxTD) := by
  intro pn s σ H xs us Q I r h
  obtain ⟨M, ds, d, dm, ra, e, q⟩ := h
  match ds, ra, e with
  | [.tuple ds], .cons (.tup t n l rr) .nil, e =>
    obtain ⟨m, em, rfl⟩ := some_map (show ((intsD ds).bind mostI).map PyData.int = some d from e)
    obtain ⟨ns, en, em⟩ := some_bind em
    have hv := rr.ints en
    subst hv
    refine cr_maxT hc hu pn s σ H _ us Q I r ⟨_, ns, rfl, t.sq, ?_, fun m' hm hl => ?_⟩
    · cases ns with
      | nil => cases em
      | cons _ _ => simp
    · have : m' = m := by
        cases ns with
        | nil => cases em
        | cons x xs =>
          have e2 := foldl_most xs x m' hm hl
          have em : some (xs.foldl (fun a b => if b > a then b else a) x) = some m := em
          rw [e2] at em
          cases em
          rfl
      subst this
      exact q _ _ (Same.refl _) (.int _)
theorem intsD.map (ns : List Int) : intsD (ns.map PyData.int) = some ns := by
  induction ns with
  | nil => rfl
  | cons n ns ih =>
    show (intsD (ns.map PyData.int)).map _ = _
    rw [ih]
    rfl
/-! a, b, c = x, y, z -/
def sPar3 (i j k : Nat) (f : Rho → Option (List D)) : Rho → Option Out := fun ρ => (f ρ).bind fun ds => match ds with
  | [a, b, c] => some (.nx (((ρ.set i (some (.dat a))).set j (some (.dat b))).set k (some (.dat c))))
  | _ => none
theorem dS_par3 {st : Stmt} {i j k : Nat} {f : Rho → Option (List D)} (h : PS X st (tPar3 i j k (tA true f))) : PS X st (tS (sPar3 i j k f)) := h.wk fun Dn σ H q => by
  obtain ⟨M0, H0, ρ, o, R, e, q⟩ := tS_iff.mp q
  obtain ⟨ds, ed, e⟩ := some_bind e
  refine ⟨M0, H0, ρ, ds, R, ed, fun vs H1 s1 r1 => ?_⟩
  match ds, vs, r1, e with
  | [a, b, c], [v, w, u], .cons ra (.cons rb (.cons rc .nil)), e =>
    cases e
    have sh : ∀ a', Mu true M0 (σ.set i (some v)) (ρ.set i (some (.dat a))) a' → Mu true M0 σ ρ a' := Mu.shrink fun ds e => by cases e
    have R1 := (R.mono s1).set (i := i) ra
    have R2 := R1.set (i := j) (rb.reM fun a m => .inl (sh a m))
    have sh2 : ∀ a', Mu true M0 ((σ.set i (some v)).set j (some w)) ((ρ.set i (some (.dat a))).set j (some (.dat b))) a' → Mu true M0 σ ρ a' := fun p m => sh p (Mu.shrink (fun ds e => by cases e) p m)
    have R3 := R2.set (i := k) (rc.reM fun a m => .inl (sh2 a m))
    refine ⟨v, w, u, rfl, q _ _ R3 ((Stp.of s1).trans ⟨.refl, fun p m => .inl (sh2 p (Mu.shrink (fun ds e => by cases e) p m))⟩)⟩
theorem ev_par3 {i j k : Nat} {f : Rho → Option (List D)} {g : Rho → Option Out} {ρ : Rho} {a b c : D} (h : f ρ = some [a, b, c]) : sSeq (sPar3 i j k f) g ρ = g (((ρ.set i (some (.dat a))).set j (some (.dat b))).set k (some (.dat c))) := by
  unfold sSeq sPar3
  rw [h]
  rfl
end
end Dl
namespace Dl
open PySem PySem.Spec PyProof.Rows L2 Rt
/-! ### texts: a sign by its place, signs joined, texts in their order -/
def ixX : D → D → Option D
  | .str z, .int i => (L2.atI z.cps.toList i).map fun c => .str ⟨#[c]⟩
  | a, b => ixD a b
def chrsD : List D → Option (List Nat)
  | [] => some []
  | .str z :: ds => match z.cps.toList with
    | [c] => (chrsD ds).map (c :: ·)
    | _ => none
  | _ :: _ => none
def joinC : D → Option D
  | .list ds => (chrsD ds).bind fun cs => if cs.length ≤ 1000 then some (.str ⟨cs.toArray⟩) else none
  | _ => none
theorem chrsD.map : ∀ cs : List Nat, chrsD (cs.map fun c => PyData.str ⟨#[c]⟩) = some cs
  | [] => rfl
  | c :: cs => by
    show (chrsD (cs.map fun c => PyData.str ⟨#[c]⟩)).map _ = _
    rw [chrsD.map cs]
    rfl
theorem join_c : ∀ cs : List Nat, Txt.join (⟨#[]⟩ : Str) (cs.map fun c => (⟨#[c]⟩ : Str)) = ⟨cs.toArray⟩ := by
  intro cs
  rw [TL.join_eq]
  induction cs with
  | nil => rfl
  | cons c r ih =>
    cases r with
    | nil => rfl
    | cons d r =>
      show (⟨#[c]⟩ : Str) ++ ⟨#[]⟩ ++ Str.join ⟨#[]⟩ ((d :: r).map fun c => (⟨#[c]⟩ : Str)) = _
      rw [ih]
      show (⟨(#[c] ++ #[]) ++ (d :: r).toArray⟩ : Str) = ⟨(c :: d :: r).toArray⟩
      simp
theorem RpAll.chrs {M : Addr → Prop} {H : Hp} : ∀ {vs : List V} {ds : List D} {cs : List Nat}, RpAll M H vs ds → chrsD ds = some cs → vs = (cs.map fun c => (⟨#[c]⟩ : Str)).map V.str
  | _, _, _, .nil, h => by cases h; rfl
  | _, _, _, .cons (d := d) (ds := ds) r rr, h => by
    cases r <;> try (cases h; done)
    rename_i x hx
    have h : (match x.cps.toList with | [c] => (chrsD ds).map (c :: ·) | _ => none) = some _ := h
    split at h
    · rename_i c hc
      obtain ⟨cs, hz, rfl⟩ := some_map h
      rw [rr.chrs hz]
      have : x = ⟨#[c]⟩ := by
        cases x
        rename_i a
        have : a = #[c] := by
          rw [← Array.toArray_toList (xs := a)]
          exact congrArg List.toArray hc
        rw [this]
      rw [this]
      rfl
    · cases h
section
variable {X : Cx} {K : PySem.W.Frag}
theorem i_ixX : IxR X (rD ixX) := by
  intro ve sl pn s σ H x y v u Q I rx ry h hs
  obtain ⟨M, a, b, d, dm, ra, rb, e, q⟩ := h
  by_cases hz : ∃ z i, a = .str z ∧ b = .int i
  · obtain ⟨z, i, rfl, rfl⟩ := hz
    obtain ⟨c, hc, rfl⟩ := some_map (show (L2.atI z.cps.toList i).map _ = some d from e)
    cases ra
    rename_i hz
    cases rb
    exact ix_str ve sl pn s σ H _ _ v u Q I rx ry ⟨z, i, c, rfl, rfl, hz, hc, q _ H (Same.refl _) (.str _ (by show 1 ≤ sizeLine; decide))⟩ hs
  · refine i_ix ve sl pn s σ H x y v u Q I rx ry ⟨M, a, b, d, dm, ra, rb, ?_, q⟩ hs
    unfold ixX at e
    split at e
    · exact (hz ⟨_, _, rfl, rfl⟩).elim
    · exact e
theorem dE_ixX {a b : Expr} {pos : Pos} {f1 f2 : EF} {μ : Bool} (ha : PE X a (tD μ f1)) (hb : PE X b (tD μ f2)) (hp : PlainIx b := by exact fun _ _ => rfl) : PE X (.Subscript a b pos) (tD μ (e2 ixX f1 f2)) := (pe_ix i_ixX ha hb hp).wk fun _ _ _ q => dOp2 q
theorem nE_ixX {a b : Expr} {pos : Pos} {f1 f2 : WP D} (ha : PE X a (tn f1)) (hb : PE X b (tn f2)) (hp : PlainIx b := by exact fun _ _ => rfl) : PE X (.Subscript a b pos) (tn (w2 f1 f2 ixX)) := (pe_ix i_ixX ha hb hp).wk fun _ _ _ q => nOp2 q
theorem nE_join {o e : Expr} {apos pos : Pos} {f : WP D} (ho : PE X o (tC (.str (Str.ofString "")))) (he : PE X e (tn f)) (hs : starEach [e] X.env = [(false, eval e X.env)] := by rfl) (hbase : attributeBase o "join" X.env (eval o X.env) = eval o X.env := by rfl) (hline : (apos.endLine == pos.line) = true := by rfl) :
    PE X (.Call (.Attribute o "join" apos) [e] [] pos) (tn (wB f joinC)) := (pe_join ho he hs hbase hline).wk fun σ H Q q => by
  obtain ⟨p, M0, H0, ρ, b, R, q⟩ := q
  refine ⟨⟨_, rfl⟩, p, M0, H0, ρ, b, R, f.m (fun d b1 ⟨r, e, q⟩ y H2 k2 i2 r2 => ?_) q⟩
  obtain ⟨ds, rfl⟩ : ∃ ds, d = .list ds := by cases d <;> first | exact ⟨_, rfl⟩ | cases e
  obtain ⟨cs, hc, e⟩ := some_bind (show (chrsD ds).bind _ = some r from e)
  obtain ⟨hl, rfl⟩ := iteS e
  cases r2 with
  | lst t n l rr =>
    have hv := rr.chrs hc
    subst hv
    refine ⟨_, _, cs.map fun c => (⟨#[c]⟩ : Str), rfl, rfl, .inl (SqL.of t), ?_, ?_⟩
    · show ((cs.map (fun c => (⟨#[c]⟩ : Str))).map (·.length)).sum + (cs.map (fun c => (⟨#[c]⟩ : Str))).length * 0 ≤ 16777216
      rw [List.map_map, show ((fun x : Str => x.length) ∘ fun c => (⟨#[c]⟩ : Str)) = fun _ => 1 from rfl, List.map_const', List.sum_replicate_nat]
      omega
    · rw [show Str.ofString "" = ⟨#[]⟩ from rfl, join_c]
      exact q _ H2 k2 i2 (.str _ (by show cs.toArray.size ≤ sizeLine; rw [List.size_toArray]; exact sz (by omega)))
/-- sorted, of texts: the same ones in some order -/
def wSorS (f : WP (List D)) : WP D := ⟨fun ρ b Q => f.w ρ b fun ds b' => ∃ zs : List Str, ds = [.list (zs.map .str)] ∧ zs.length < 64 ∧ ∀ ys : List Str, ys.Perm zs → Q (.list (ys.map .str)) b', fun h z => f.m (fun ds b' ⟨zs, e, l, q⟩ => ⟨zs, e, l, fun ys p => h _ _ (q ys p)⟩) z⟩
theorem RpAll.strL {M : Addr → Prop} {H : Hp} : ∀ {vs : List V} {zs : List Str}, RpAll M H vs (zs.map .str) → vs = zs.map V.str ∧ ∀ z ∈ zs, z.length ≤ sizeLine
  | _, [], .nil => ⟨rfl, fun z h => nomatch h⟩
  | _, z :: zs, .cons r rr => by
    obtain ⟨e, h⟩ := rr.strL
    cases r
    rename_i hz
    subst e
    exact ⟨rfl, fun y hy => by
      rcases List.mem_cons.mp hy with rfl | hy
      · exact hz
      · exact h y hy⟩
theorem strs_rp {M : Addr → Prop} {H : Hp} : ∀ {zs : List Str}, (∀ z ∈ zs, z.length ≤ sizeLine) → RpAll M H (zs.map V.str) (zs.map PyData.str)
  | [], _ => .nil
  | z :: zs, h => .cons (.str z (h z (by simp))) (strs_rp fun y hy => h y (by simp [hy]))
theorem nE_sorS {e : Expr} {p pos : Pos} {f : WP (List D)} (hg : Gl X "sorted") (hm : X.mg "sorted" = none) (ha : PA X [e] (tnA f)) (he : starEach [e] X.env = (false, eval e X.env) :: starEach [] X.env := by rfl) (hpl : (backTo pos (starEach [] X.env)).any (·.1) = false := by rfl) :
    PE X (.Call (.Name "sorted" p) [e] [] pos) (tn (wSorS f)) := (pe_callB cr_sortedS hg hm (by decide +kernel) ha (by decide) (by decide) he hpl).wk fun σ H Q q => by
  obtain ⟨g, M0, H0, ρ, b, R, q⟩ := q
  refine ⟨g, M0, H0, ρ, b, R, f.m (fun ds b1 ⟨zs, e, l64, q⟩ vs H1 k1 i1 r1 => ?_) q⟩
  subst e
  match vs, r1 with
  | [_], .cons (.lst t n l rr) .nil =>
    obtain ⟨e, hz⟩ := rr.strL
    subst e
    refine ⟨_, zs, rfl, SqL.of t, l64, fun ys a perm _ na => ?_⟩
    exact q ys perm _ _ (k1.tr (.of (smN na))) (Pl.same i1 (smN na)) (.lst upd_same (((R.up k1 i1).domu true).not na) (by rw [List.length_map, perm.length_eq]; exact small64 l64) (strs_rp fun y hy => hz y (perm.mem_iff.mp hy)))
end
end Dl
namespace Dl
open PySem PySem.Spec PyProof.Rows L2 Rt
def S (x : String) : D := .str (Str.ofString x)
theorem rgD_len (lo : Int) (n : Nat) : (rgD lo n).length = n := by unfold rgD; rw [List.length_map, List.length_range]
theorem rgD_get {lo : Int} {n j : Nat} (h : j < n) : (rgD lo n)[j]? = some (.int (lo + j)) := by
  unfold rgD
  rw [List.getElem?_map, List.getElem?_range h]
  rfl
def LET : List Nat := (Str.ofString "abcdefghijklmnopqrstuvwxyz").cps.toList
theorem cut1 {α : Type} (xs : List α) : cutD xs (some 1) none = xs.drop 1 := by
  unfold cutD
  rw [HT.sIx_none, show (some (1 : Int)) = some ((1 : Nat) : Int) from rfl, HT.sIx_nat]
  cases xs with
  | nil => rfl
  | cons x r =>
    rw [show min 1 (x :: r).length = 1 by simp]
    exact List.take_of_length_le (by simp)
theorem zp_zip : ∀ (as bs : List D), zpGo as bs = (as.zip bs).map fun x => .tuple [x.1, x.2]
  | [], bs => by cases bs <;> rfl
  | a :: as, [] => rfl
  | a :: as, b :: bs => by
    show PyData.tuple [a, b] :: zpGo as bs = _
    rw [zp_zip as bs]
    rfl
theorem ints_eq : ∀ {ds : List D} {ns : List Int}, intsD ds = some ns → ds = ns.map .int
  | [], _, e => by cases e; rfl
  | .int i :: ds, _, e => by
    obtain ⟨r, er, rfl⟩ := some_map e
    rw [ints_eq er]
    rfl
  | .none :: _, _, e => nomatch e
  | .bool _ :: _, _, e => nomatch e
  | .str _ :: _, _, e => nomatch e
  | .list _ :: _, _, e => nomatch e
  | .tuple _ :: _, _, e => nomatch e
  | .dict _ :: _, _, e => nomatch e
theorem cut_to {α : Type} {xs : List α} {m : Nat} (h : m ≤ xs.length) : cutD xs none (some (m : Int)) = xs.take m := by
  unfold cutD
  rw [HT.sIx_none, HT.sIx_nat, List.drop_zero, Nat.sub_zero, Nat.min_eq_left h]
theorem cut_fr {α : Type} {xs : List α} {m : Nat} (h : m ≤ xs.length) : cutD xs (some (m : Int)) none = xs.drop m := by
  unfold cutD
  rw [HT.sIx_none, HT.sIx_nat, Nat.min_eq_left h, List.take_of_length_le (by rw [List.length_drop]; omega)]
theorem ev_cons {f : EF} {g : Rho → Option (List D)} {ρ : Rho} {d : D} {ds : List D} (h1 : f ρ = some d) (h2 : g ρ = some ds) : aCons f g ρ = some (d :: ds) := by
  unfold aCons
  rw [h1]
  show (g ρ).map _ = _
  rw [h2]
  rfl
/-- some thing of such a sort, by at most so many draws -/
def gAny (c : Nat) (pre : List D → Prop) (post : List D → D → Prop) : GF := ⟨fun ds n Q => pre ds ∧ c ≤ n ∧ ∀ d n', post ds d → n ≤ n' + c → Q d n', fun h ⟨a, b, q⟩ => ⟨a, b, fun d n' p l => h _ _ (q d n' p l)⟩⟩
def gNext : GF := gAny 1 (fun ds => ∃ b : Int, ds = [.int b] ∧ 0 < b ∧ b < 2 ^ 60) (fun ds d => ∃ b v : Int, ds = [.int b] ∧ d = .int v ∧ 0 ≤ v ∧ v < b)
def gOne : GF := gAny 1 (fun ds => ∃ w items, ds = [w] ∧ seqD w = some items ∧ 0 < items.length ∧ items.length ≤ 1000) (fun ds d => ∃ w items, ds = [w] ∧ seqD w = some items ∧ d ∈ items)
theorem kp_own {g : Gd} {H H' : Hp} (k : Kp g H H') : KpM g.own H H' := fun p o n e => k p o (fun z => n (.inl z)) (fun z => n (.inr (.inr z))) e
section
variable {P : Program} {w : World} {K : PySem.W.Frag} {mg : Str → Option Value} {base : Heap}
theorem ok_nextN {f : Addr} {fd : FuncData} {k : Nat} {ps : List Str} (F : FnOk P w K mg base CX0 k f fd ps spNext) : FnOk P w K mg base CX0 k f fd ps (spN 1 gNext) := F.wk fun vs H Q E h => by
  obtain ⟨g, M, ws, ds, n, rfl, pl, dm, iv, r, l, ⟨b, rfl, b0, b1⟩, hn, q⟩ := h
  match ws, r with
  | [_], .cons (.int _) .nil =>
    exact ⟨g, n, b, rfl, iv, hn, b0, b1, fun v H' v0 v1 F' K' => q (.int v) (n - 1) ⟨b, v, rfl, rfl, v0, v1⟩ (by omega) (.int v) H' (kp_own K') F' (.int v)⟩
end
theorem wNext {i : Nat} {e : EF} {ρ : Rho} {b : Nat} {Q : D → Nat → Prop} {m : Int} (hp : ρ[i]? = some (some .pool)) (he : e (shutR true ρ) = some (.int m)) (h0 : 0 < m) (h1 : m < 2 ^ 60) (hb : 1 ≤ b) (q : ∀ v n', 0 ≤ v → v < m → b ≤ n' + 1 → Q (.int v) n') : (wCall i 1 gNext (wCons (wP e) wNil)).w ρ b Q :=
  ⟨hp, .int m, he, _, rfl, rfl, ⟨m, rfl, h0, h1⟩, hb, fun d n' ⟨b', v, e1, e2, v0, v1⟩ hn => by
    cases e1
    subst e2
    exact q v n' v0 v1 hn⟩
theorem wOne {i : Nat} {e : EF} {ρ : Rho} {b : Nat} {Q : D → Nat → Prop} {x : D} {items : List D} (hp : ρ[i]? = some (some .pool)) (he : e (shutR true ρ) = some x) (hs : seqD x = some items) (h0 : 0 < items.length) (h1 : items.length ≤ 1000) (hb : 1 ≤ b) (q : ∀ d n', d ∈ items → b ≤ n' + 1 → Q d n') : (wCall i 1 gOne (wCons (wP e) wNil)).w ρ b Q :=
  ⟨hp, x, he, _, rfl, rfl, ⟨x, items, rfl, hs, h0, h1⟩, hb, fun d n' ⟨w', it', e1, e2, m⟩ hn => by
    cases e1
    rw [hs] at e2
    cases e2
    exact q d n' m hn⟩
theorem lst4 {α : Type} {a b c d : α} {i : Int} (h0 : 0 ≤ i) (h1 : i < 4) : ∃ x, L2.atI [a, b, c, d] i = some x ∧ (x = a ∨ x = b ∨ x = c ∨ x = d) := by
  obtain ⟨x, e, m, _⟩ := atI_in (xs := [a, b, c, d]) h0 h1
  exact ⟨x, e, by simpa using m⟩
theorem lst3 {α : Type} {a b c : α} {i : Int} (h0 : 0 ≤ i) (h1 : i < 3) : ∃ x, L2.atI [a, b, c] i = some x ∧ (x = a ∨ x = b ∨ x = c) := by
  obtain ⟨x, e, m, _⟩ := atI_in (xs := [a, b, c]) h0 h1
  exact ⟨x, e, by simpa using m⟩
/-- a comprehension each of whose things costs so much -/
theorem lcN_all {p : Pat} {f : WP D} {ρ : Rho} (c : Nat) (Pt : D → Prop) : ∀ (items : List D) (b : Nat) (Q : List D → Nat → Prop), items.length * c ≤ b →
    (∀ x ∈ items, ∀ b Q, c ≤ b → (∀ d n', Pt d → b ≤ n' + c → Q d n') → ∃ ρ1, bindP p x ρ = some ρ1 ∧ f.w ρ1 b Q) → (∀ r b', r.length = items.length → (∀ d ∈ r, Pt d) → b ≤ b' + items.length * c → Q r b') → lcN p wYes f ρ items b Q
  | [], b, Q, _, _, q => q [] b rfl (fun d m => nomatch m) (by simp)
  | x :: xs, b, Q, hb, hf, q => by
    have e : (x :: xs).length * c = xs.length * c + c := by rw [List.length_cons, Nat.add_mul, Nat.one_mul]
    rw [e] at hb q
    obtain ⟨ρ1, e1, w1⟩ := hf x (by simp) b (fun d b2 => lcN p wYes f ρ xs b2 fun r b3 => Q (d :: r) b3) (by omega) fun d n' pd hn => lcN_all c Pt xs n' _ (by omega) (fun y hy => hf y (by simp [hy])) fun r b' hl hr hb' => q (d :: r) b' (by rw [List.length_cons, List.length_cons, hl]) (fun z hz => by
      rcases List.mem_cons.mp hz with e | e
      · rw [e]; exact pd
      · exact hr z e) (by omega)
    exact ⟨ρ1, e1, w1⟩
/-- a comprehension that keeps some of its items -/
theorem lcN_some {i : Nat} {c : WP Bool} {ρ : Rho} (hi : i < ρ.length) (cst : Nat) : ∀ (items : List D) (b : Nat) (Q : List D → Nat → Prop), items.length * cst ≤ b →
    (∀ x ∈ items, ∀ b Q, cst ≤ b → (∀ k n', b ≤ n' + cst → Q k n') → c.w (ρ.set i (some (.dat x))) b Q) → (∀ r b', r.Sublist items → b ≤ b' + items.length * cst → Q r b') → (∀ x, (shutR true (ρ.set i (some (.dat x))))[i]? = some (some (.dat x))) → lcN (.nm i) c (wP (eVar i)) ρ items b Q
  | [], b, Q, _, _, q, _ => q [] b (List.Sublist.refl _) (by simp)
  | x :: xs, b, Q, hb, hc, q, hv => by
    have e : (x :: xs).length * cst = xs.length * cst + cst := by rw [List.length_cons, Nat.add_mul, Nat.one_mul]
    rw [e] at hb q
    refine ⟨ρ.set i (some (.dat x)), by unfold bindP; rw [if_pos hi], hc x (by simp) b _ (by omega) fun k n' hn => ?_⟩
    cases k with
    | true =>
      refine ⟨x, by unfold eVar; rw [hv x], ?_⟩
      exact lcN_some hi cst xs n' _ (by omega) (fun y hy => hc y (by simp [hy])) (fun r b' hs hb' => q _ b' (hs.cons₂ x) (by omega)) hv
    | false => exact lcN_some hi cst xs n' _ (by omega) (fun y hy => hc y (by simp [hy])) (fun r b' hs hb' => q _ b' (hs.cons x) (by omega)) hv
theorem iteB {c : Bool} {A B : Prop} (h1 : c = true → A) (h2 : c = false → B) : if c = true then A else B := by
  cases c with
  | true => exact h1 rfl
  | false => exact h2 rfl
theorem ev_lstX {g : Rho → Option (List D)} {ρ : Rho} {ds : List D} (h : g ρ = some ds) (hl : ds.length ≤ 1000) : eLst g ρ = some (.list ds) := by
  unfold eLst
  rw [h]
  exact if_pos (sz (by omega))
theorem ev_tupX {g : Rho → Option (List D)} {ρ : Rho} {ds : List D} (h : g ρ = some ds) (hl : ds.length ≤ 1000) : eTup g ρ = some (.tuple ds) := by
  unfold eTup
  rw [h]
  exact if_pos (sz (by omega))
theorem wIfAO {A B : Rho → Option Bool} {h : WP Bool} {T E : WP Out} {ρ : Rho} {b : Nat} {Q : Out → Nat → Prop} {x z : Bool} (Bn : Nat → Prop) (hA : A (shutR true ρ) = some x) (hB : B (shutR true ρ) = some z) (b0 : Bn b) (hh : h.w ρ b fun _ b' => Bn b') (thn : x = true → ∀ b', Bn b' → T.w ρ b' Q) (els : ∀ b', Bn b' → E.w ρ b' Q) : (swIf (wAnd (wP A) (wOr (wP B) h)) T E).w ρ b Q := by
  refine ⟨x, hA, ?_⟩
  cases x with
  | false => exact els b b0
  | true =>
    refine ⟨z, hB, ?_⟩
    cases z with
    | true => exact thn rfl b b0
    | false =>
      refine h.m (fun k b' hb => ?_) hh
      cases k with
      | true => exact thn rfl b' hb
      | false => exact els b' hb
theorem ev_sl {f : EF} {lo hi : Rho → Option (Option Int)} {ρ : Rho} {d r : D} {l h : Option Int} (h1 : f ρ = some d) (h2 : lo ρ = some l) (h3 : hi ρ = some h) (h4 : slD d l h = some r) : eSl f lo hi ρ = some r := by
  unfold eSl
  rw [h1]
  show (lo ρ).bind _ = _
  rw [h2]
  show (hi ρ).bind _ = _
  rw [h3]
  exact h4
theorem sl_to {xs : List D} {j : Nat} (h : j ≤ xs.length) : slD (.tuple xs) none (some (j : Int)) = some (.tuple (xs.take j)) := by
  show some (PyData.tuple (cutD xs none (some (j : Int)))) = _
  rw [cut_to h]
theorem sl_fr {xs : List D} {j : Nat} (h : j ≤ xs.length) : slD (.tuple xs) (some (j : Int)) none = some (.tuple (xs.drop j)) := by
  show some (PyData.tuple (cutD xs (some (j : Int)) none)) = _
  rw [cut_fr h]
theorem sl_fr1 {xs : List D} {j : Nat} (h : j + 1 ≤ xs.length) : slD (.tuple xs) (some ((j : Int) + 1)) none = some (.tuple (xs.drop (j + 1))) := by
  rw [show ((j : Int) + 1) = ((j + 1 : Nat) : Int) by omega]
  exact sl_fr h
theorem okD_str {z : Str} (h : PyData.strOk z = true) : okD (.str z) = true := by
  show (true && (PyData.strOk z && true)) = true
  rw [h]
  rfl
def NmG (z : Str) : Prop := 1 ≤ z.length ∧ z.length ≤ 8 ∧ ∀ c ∈ z.cps.toList, c ∈ LET
structure Sr where
  k : Str
  a : Int
  p : Int
  s : Int
  m : Int
structure Pt where
  k : Str
  l : Int
  g : Int
structure Wy where
  k : Str
  ps : List Pt
  kp : Str
  hs : List Int
  w : Int
structure Wd where
  n : Int
  ks : List Str
  ss : List Sr
  ws : List Wy
def Sr.d (x : Sr) : D := .tuple [.str x.k, .int x.a, .int x.p, .int x.s, .int x.m]
def Pt.d (x : Pt) : D := .tuple [.str x.k, .int x.l, .int x.g]
def Wy.d (x : Wy) : D := .tuple [.str x.k, .tuple (x.ps.map Pt.d), .str x.kp, .tuple (x.hs.map .int), .int x.w]
def Wd.d (x : Wd) : D := .tuple [.int x.n, .tuple (x.ks.map .str), .tuple (x.ss.map Sr.d), .tuple (x.ws.map Wy.d)]
structure Sr.ok (n : Int) (ks : List Str) (x : Sr) : Prop where
  k : x.k ∈ ks
  a0 : 0 ≤ x.a
  a1 : x.a ≤ 20
  p0 : 0 ≤ x.p
  p1 : x.p < n
  s0 : 0 ≤ x.s
  s1 : x.s ≤ 1000000
  m0 : 1 ≤ x.m
  m1 : x.m ≤ 9
structure Pt.ok (ks : List Str) (x : Pt) : Prop where
  k : x.k ∈ ks
  l0 : 0 ≤ x.l
  lg : x.l ≤ x.g
  g1 : x.g ≤ 20
structure Wy.ok (n : Int) (ks : List Str) (x : Wy) : Prop where
  k : x.k ∈ ks
  ps : ∀ p ∈ x.ps, p.ok ks
  p1 : 1 ≤ x.ps.length
  p3 : x.ps.length ≤ 3
  kp : x.kp = Str.ofString "oldest" ∨ x.kp = Str.ofString "youngest"
  hs : ∀ h ∈ x.hs, 0 ≤ h ∧ h < n
  hl : x.hs.length ≤ 6
  asc : x.hs.Pairwise (· < ·)
  w0 : 1 ≤ x.w
  w1 : x.w ≤ 6
structure Wd.ok (x : Wd) : Prop where
  n1 : 1 ≤ x.n
  n6 : x.n ≤ 6
  k1 : 1 ≤ x.ks.length
  k4 : x.ks.length ≤ 4
  ks : ∀ z ∈ x.ks, PyData.strOk z = true ∧ z.length ≤ 20
  kg : ∀ z ∈ x.ks, NmG z
  kr : x.ks.Pairwise fun a b => a.cps.toList < b.cps.toList
  sl : x.ss.length ≤ 6
  ss : ∀ s ∈ x.ss, s.ok x.n x.ks
  wl : x.ws.length ≤ 8
  ws : ∀ w ∈ x.ws, w.ok x.n x.ks
theorem map_inj {α : Type} {f : α → D} (h : ∀ {x y}, f x = f y → x = y) : ∀ {a b : List α}, a.map f = b.map f → a = b
  | [], [], _ => rfl
  | [], _ :: _, e => nomatch e
  | _ :: _, [], e => nomatch e
  | x :: a, y :: b, e => by
    have e := List.cons.inj (show f x :: a.map f = f y :: b.map f from e)
    rw [h e.1, map_inj h e.2]
theorem tup_inj {α : Type} {f : α → D} (h : ∀ {x y}, f x = f y → x = y) {a b : List α} (e : PyData.tuple (a.map f) = .tuple (b.map f)) : a = b := by
  injection e with e
  exact map_inj h e
theorem int_i {a b : Int} (h : PyData.int a = .int b) : a = b := by cases h; rfl
theorem str_i {a b : Str} (h : PyData.str a = .str b) : a = b := by cases h; rfl
theorem Sr.inj {x y : Sr} (h : x.d = y.d) : x = y := by
  cases x; cases y; cases h; rfl
theorem Pt.inj {x y : Pt} (h : x.d = y.d) : x = y := by
  cases x; cases y; cases h; rfl
theorem Wy.inj {x y : Wy} (h : x.d = y.d) : x = y := by
  cases x with
  | mk k ps kp hs w =>
    cases y with
    | mk k' ps' kp' hs' w' =>
      have h : PyData.tuple [.str k, .tuple (ps.map Pt.d), .str kp, .tuple (hs.map .int), .int w] = .tuple [.str k', .tuple (ps'.map Pt.d), .str kp', .tuple (hs'.map .int), .int w'] := h
      injection h with h
      injection h with h1 h
      injection h with h2 h
      injection h with h3 h
      injection h with h4 h
      injection h with h5 h
      cases str_i h1
      cases str_i h3
      cases int_i h5
      cases tup_inj Pt.inj h2
      cases tup_inj int_i h4
      rfl
theorem Wd.inj {x y : Wd} (h : x.d = y.d) : x = y := by
  cases x with
  | mk n ks ss ws =>
    cases y with
    | mk n' ks' ss' ws' =>
      have h : PyData.tuple [.int n, .tuple (ks.map .str), .tuple (ss.map Sr.d), .tuple (ws.map Wy.d)] = .tuple [.int n', .tuple (ks'.map .str), .tuple (ss'.map Sr.d), .tuple (ws'.map Wy.d)] := h
      injection h with h
      injection h with h1 h
      injection h with h2 h
      injection h with h3 h
      injection h with h4 h
      cases int_i h1
      cases tup_inj str_i h2
      cases tup_inj Sr.inj h3
      cases tup_inj Wy.inj h4
      rfl
structure Sem (α : Type) where
  enc : α → List D
  ok : α → Prop
  out : α → D
  fn : ∀ {x y}, ok x → ok y → enc x = enc y → out x = out y
noncomputable def Sem.f {α : Type} (S : Sem α) : List D → Option D := fun ds => @dite _ (∃ x, S.ok x ∧ S.enc x = ds) (Classical.propDecidable _) (fun h => some (S.out h.choose)) (fun _ => none)
theorem Sem.of {α : Type} {S : Sem α} {x : α} (h : S.ok x) : S.f (S.enc x) = some (S.out x) := by
  unfold Sem.f
  rw [dif_pos ⟨x, h, rfl⟩]
  congr 1
  have z : ∃ y, S.ok y ∧ S.enc y = S.enc x := ⟨x, h, rfl⟩
  exact S.fn z.choose_spec.1 h z.choose_spec.2
theorem Sem.get {α : Type} {S : Sem α} {ds : List D} {d : D} (h : S.f ds = some d) : ∃ x, S.ok x ∧ ds = S.enc x ∧ d = S.out x := by
  unfold Sem.f at h
  by_cases e : ∃ x, S.ok x ∧ S.enc x = ds
  · rw [dif_pos e] at h
    cases h
    exact ⟨_, e.choose_spec.1, e.choose_spec.2.symm, rfl⟩
  · rw [dif_neg e] at h
    cases h
theorem nat_i {a b : Nat} (h : PyData.int (a : Nat) = .int (b : Nat)) : a = b := by
  injection h with h
  omega
theorem at_map {α : Type} {f : α → D} {xs : List α} {j : Nat} {x : α} (h : xs[j]? = some x) : L2.atI (xs.map f) (j : Int) = some (f x) := atI_nat (by rw [List.getElem?_map, h]; rfl)
theorem ev_eIf {c : Rho → Option Bool} {f g : EF} {ρ : Rho} {b : Bool} {d : D} (hc : c ρ = some b) (h : (if b = true then f ρ else g ρ) = some d) : eIf c f g ρ = some d := by
  unfold eIf
  rw [hc]
  exact h
theorem ev_lcG {p : Pat} {f : EF} {ρ : Rho} {α : Type} {e t : α → D} : ∀ (xs : List α), (∀ x ∈ xs, ∃ ρ1, bindP p (e x) ρ = some ρ1 ∧ f ρ1 = some (t x)) → lcGo p oYes f ρ (xs.map e) = some (xs.map t)
  | [], _ => rfl
  | x :: xs, h => by
    obtain ⟨ρ1, e1, e2⟩ := h x (by simp)
    show (bindP p (e x) ρ).bind _ = _
    rw [e1]
    show (f ρ1).bind _ = _
    rw [e2]
    show (lcGo _ _ _ _ _).map _ = _
    rw [ev_lcG xs fun y hy => h y (by simp [hy])]
    rfl
theorem ev_lcGF {p : Pat} {c : Rho → Option Bool} {f : EF} {ρ : Rho} {α : Type} {e t : α → D} {k : α → Bool} : ∀ (xs : List α), (∀ x ∈ xs, ∃ ρ1, bindP p (e x) ρ = some ρ1 ∧ c ρ1 = some (k x) ∧ f ρ1 = some (t x)) → lcGo p c f ρ (xs.map e) = some ((xs.filter k).map t)
  | [], _ => rfl
  | x :: xs, h => by
    obtain ⟨ρ1, e1, e2, e3⟩ := h x (by simp)
    show (bindP p (e x) ρ).bind _ = _
    rw [e1]
    show (c ρ1).bind _ = _
    rw [e2]
    have ih := ev_lcGF xs fun y hy => h y (by simp [hy])
    cases hk : k x with
    | true =>
      rw [List.filter_cons_of_pos hk]
      show (f ρ1).bind _ = _
      rw [e3]
      show (lcGo _ _ _ _ _).map _ = _
      rw [ih]
      rfl
    | false =>
      rw [List.filter_cons_of_neg (by rw [hk]; decide)]
      show lcGo _ _ _ _ _ = _
      exact ih
def rgI (lo : Int) (n : Nat) : List Int := (List.range n).map fun (i : Nat) => lo + i
theorem rgI_asc (lo : Int) (n : Nat) : (rgI lo n).Pairwise (· < ·) := by
  unfold rgI
  refine List.pairwise_map.mpr (List.pairwise_lt_range.imp fun h => ?_)
  omega
theorem rgD_I (lo : Int) (n : Nat) : rgD lo n = (rgI lo n).map PyData.int := by
  unfold rgD rgI
  rw [List.map_map]
  rfl
theorem rgD_succ (lo : Int) (n : Nat) : rgD lo (n + 1) = .int lo :: rgD (lo + 1) n := by
  unfold rgD
  rw [List.range_succ_eq_map, List.map_cons, List.map_map]
  congr 1
  · simp
  · refine List.map_congr_left fun i _ => ?_
    show PyData.int (lo + ((i + 1 : Nat) : Int)) = PyData.int (lo + 1 + (i : Int))
    congr 1
    omega
theorem cho {α : Type} {f : α → D} {P : α → Prop} : ∀ {ds : List D}, (∀ d ∈ ds, ∃ x, d = f x ∧ P x) → ∃ xs : List α, ds = xs.map f ∧ ∀ x ∈ xs, P x
  | [], _ => ⟨[], rfl, fun x h => nomatch h⟩
  | d :: ds, h => by
    obtain ⟨x, rfl, px⟩ := h d (by simp)
    obtain ⟨xs, rfl, pxs⟩ := cho (ds := ds) fun d hd => h d (by simp [hd])
    exact ⟨x :: xs, rfl, fun y hy => by
      rcases List.mem_cons.mp hy with rfl | hy
      · exact px
      · exact pxs y hy⟩
theorem mem_str {zs : List Str} {k : D} (h : k ∈ zs.map PyData.str) : ∃ z, k = .str z ∧ z ∈ zs := by
  obtain ⟨z, hz, rfl⟩ := List.mem_map.mp h
  exact ⟨z, rfl, hz⟩
theorem wSmall {i : Int} (h : i.natAbs < 2 ^ 52) : (PyData.int i).weight ≤ 52 := by
  show (if i == 0 then 0 else i.natAbs.log2 + 1) ≤ 52
  split
  · omega
  · by_cases z : i.natAbs = 0
    · rw [z]; decide
    · have := (Nat.log2_lt z).mpr h
      omega
def Lf (d : D) : Prop := Bd 0 1 d ∧ d.weight ≤ 52
theorem lf_int {i : Int} (h0 : -3000000000000001 ≤ i) (h1 : i ≤ 3000000000000001) : Lf (.int i) := ⟨by show i.natAbs ≤ 10 ^ 29 + 100 * 0; omega, wSmall (by omega)⟩
theorem lf_str {z : Str} (h : PyData.strOk z = true) (h2 : z.length ≤ 20) : Lf (.str z) := ⟨⟨h, h2⟩, by show z.length ≤ 52; omega⟩
theorem lf_S (x : String) (h1 : PyData.strOk (Str.ofString x) = true := by decide +kernel) (h2 : (Str.ofString x).length ≤ 20 := by decide +kernel) : Lf (S x) := lf_str h1 h2
theorem bd_tup {m n c l : Nat} {ds : List D} (hl : ds.length ≤ l) (l70 : l ≤ 70) (h : ∀ d ∈ ds, Bd m n d ∧ d.weight ≤ c) : Bd m (n + 1) (.tuple ds) ∧ (PyData.tuple ds).weight ≤ l * (c + 1) :=
  ⟨⟨by omega, fun d hd => (h d hd).1⟩, Nat.le_trans (wAll_le fun d hd => (h d hd).2) (Nat.mul_le_mul_right _ hl)⟩
theorem lf_up {n c : Nat} {d : D} (h : Lf d) (hn : 1 ≤ n) (hc : 52 ≤ c) : Bd 0 n d ∧ d.weight ≤ c := ⟨h.1.up (Nat.le_refl _) hn, Nat.le_trans h.2 hc⟩
theorem up2 {n n' c c' : Nat} {d : D} (h : Bd 0 n d ∧ d.weight ≤ c) (hn : n ≤ n') (hc : c ≤ c') : Bd 0 n' d ∧ d.weight ≤ c' := ⟨h.1.up (Nat.le_refl _) hn, Nat.le_trans h.2 hc⟩
theorem ints_bd {ns : List Int} {l : Nat} (hl : ns.length ≤ l) (l70 : l ≤ 70) (h : ∀ i ∈ ns, -3000000000000001 ≤ i ∧ i ≤ 3000000000000001) : Bd 0 2 (.tuple (ns.map PyData.int)) ∧ (PyData.tuple (ns.map PyData.int)).weight ≤ l * 53 :=
  bd_tup (c := 52) (by rw [List.length_map]; exact hl) l70 fun d hd => by
    obtain ⟨i, hi, rfl⟩ := List.mem_map.mp hd
    exact lf_int (h i hi).1 (h i hi).2
theorem wd_bd {X : Wd} (h : X.ok) : Bd 0 6 X.d ∧ X.d.weight ≤ 22000 := by
  have n1 := h.n1
  have n6 := h.n6
  have kb : ∀ z ∈ X.ks, Lf (.str z) := fun z hz => lf_str (h.ks z hz).1 (h.ks z hz).2
  have e1 : Bd 0 5 (.tuple (X.ks.map PyData.str)) ∧ (PyData.tuple (X.ks.map PyData.str)).weight ≤ 4 * 53 := up2 (bd_tup (l := 4) (c := 52) (by rw [List.length_map]; exact h.k4) (by decide) fun d hd => by
    obtain ⟨z, hz, rfl⟩ := List.mem_map.mp hd
    exact kb z hz) (by decide) (Nat.le_refl _)
  have e2 : Bd 0 5 (.tuple (X.ss.map Sr.d)) ∧ (PyData.tuple (X.ss.map Sr.d)).weight ≤ 6 * (265 + 1) := up2 (bd_tup (l := 6) (c := 5 * 53) (by rw [List.length_map]; exact h.sl) (by decide) fun d hd => by
    obtain ⟨s, hs, rfl⟩ := List.mem_map.mp hd
    have ok := h.ss s hs
    have a0 := ok.a0; have a1 := ok.a1; have p0 := ok.p0; have p1 := ok.p1; have s0 := ok.s0; have s1 := ok.s1; have m0 := ok.m0; have m1 := ok.m1
    refine bd_tup (l := 5) (c := 52) (n := 1) (by simp) (by decide) fun d hd => ?_
    simp only [List.mem_cons, List.not_mem_nil, or_false] at hd
    rcases hd with rfl | rfl | rfl | rfl | rfl
    · exact kb _ ok.k
    · exact lf_int (by omega) (by omega)
    · exact lf_int (by omega) (by omega)
    · exact lf_int (by omega) (by omega)
    · exact lf_int (by omega) (by omega)) (by decide) (Nat.le_refl _)
  have e3 : Bd 0 5 (.tuple (X.ws.map Wy.d)) ∧ (PyData.tuple (X.ws.map Wy.d)).weight ≤ 8 * (2435 + 1) := up2 (bd_tup (l := 8) (c := 5 * 487) (n := 4) (by rw [List.length_map]; exact h.wl) (by decide) fun d hd => by
    obtain ⟨y, hy, rfl⟩ := List.mem_map.mp hd
    have ok := h.ws y hy
    have w0 := ok.w0; have w1 := ok.w1
    refine bd_tup (l := 5) (c := 486) (n := 3) (by simp) (by decide) fun d hd => ?_
    simp only [List.mem_cons, List.not_mem_nil, or_false] at hd
    rcases hd with rfl | rfl | rfl | rfl | rfl
    · exact lf_up (kb _ ok.k) (by decide) (by decide)
    · refine up2 (bd_tup (l := 3) (c := 3 * 53) (n := 2) (by rw [List.length_map]; exact ok.p3) (by decide) fun d hd => ?_) (by decide) (by decide)
      obtain ⟨p, hp, rfl⟩ := List.mem_map.mp hd
      have po := ok.ps p hp
      have l0 := po.l0; have lg := po.lg; have g1 := po.g1
      refine bd_tup (l := 3) (c := 52) (n := 1) (by simp) (by decide) fun d hd => ?_
      simp only [List.mem_cons, List.not_mem_nil, or_false] at hd
      rcases hd with rfl | rfl | rfl
      · exact kb _ po.k
      · exact lf_int (by omega) (by omega)
      · exact lf_int (by omega) (by omega)
    · rcases ok.kp with e | e
      · rw [e]; exact lf_up (lf_S "oldest") (by decide) (by decide)
      · rw [e]; exact lf_up (lf_S "youngest") (by decide) (by decide)
    · exact up2 (ints_bd ok.hl (by decide) fun i hi => by have := ok.hs i hi; omega) (by decide) (by decide)
    · exact lf_up (lf_int (by omega) (by omega)) (by decide) (by decide)) (by decide) (Nat.le_refl _)
  refine ⟨⟨by simp, fun d hd => ?_⟩, ?_⟩
  · simp only [List.mem_cons, List.not_mem_nil, or_false] at hd
    rcases hd with rfl | rfl | rfl | rfl
    · exact (lf_int (by omega) (by omega)).1.up (Nat.le_refl _) (by decide)
    · exact e1.1
    · exact e2.1
    · exact e3.1
  · have e0 : (PyData.int X.n).weight ≤ 52 := (lf_int (by omega) (by omega)).2
    have e1 := e1.2; have e2 := e2.2; have e3 := e3.2
    show (PyData.int X.n).weight + 1 + ((PyData.tuple (X.ks.map PyData.str)).weight + 1 + ((PyData.tuple (X.ss.map Sr.d)).weight + 1 + ((PyData.tuple (X.ws.map Wy.d)).weight + 1 + 0))) ≤ 22000
    have : 8 * (2435 + 1) = 19488 := rfl
    omega
theorem atI_last {α : Type} {xs : List α} {b : α} (h : 0 < xs.length) (hb : xs[xs.length - 1]? = some b) : L2.atI xs (-1) = some b := by
  unfold L2.atI L2.ixN
  rw [if_neg (by decide), if_pos (by omega)]
  show xs[(_ : Nat)]? = _
  refine Eq.trans ?_ hb
  congr 1
  omega
theorem ev_e1 {g : D → Option D} {f : EF} {ρ : Rho} {a d : D} (h : f ρ = some a) (hg : g a = some d) : e1 g f ρ = some d := by
  unfold e1
  rw [h]
  exact hg
theorem wIfSet {c : WP Bool} {f r : WP Out} {ρ : Rho} {b : Nat} {Q : Out → Nat → Prop} (T : Rho → Nat → Prop) (hr : ∀ ρ' b', T ρ' b' → r.w ρ' b' Q) (hc : c.w ρ b fun k b1 => if k = true then f.w ρ b1 fun o b2 => ∃ ρ', o = .nx ρ' ∧ T ρ' b2 else T ρ b1) : (swSeq (swIf c f swNil) r).w ρ b Q := by
  refine c.m (fun k b1 z => ?_) hc
  cases k with
  | true =>
    refine f.m (fun o b2 ⟨ρ', e, t⟩ => ?_) z
    subst e
    exact hr ρ' b2 t
  | false => exact hr ρ b1 z
def spLaw (K : PySem.W.Frag) : Sp := fun vs H Q _ => ∃ (a : Addr) (ns : List Int), vs = [.ref a] ∧ SqL K H a (ns.map V.int) ∧ ns.length ≤ 63 ∧ ∀ H', Q (.bl true) H'
end Dl
namespace Dl
open PySem PySem.Spec PyProof.Rows L2 Rt
/-! ### dicts whose keys are numbers or texts -/
theorem u1 {k : Nat} {A : Around} (r : Room k A) : A.units + 1 < cLine := by
  have := r.un
  omega
def keyOf : D → Option Key
  | .int i => some (.inl i)
  | .str x => some (.inr x)
  | _ => none
theorem keyOf_kD (k : Key) : keyOf (kD k) = some k := by cases k <;> rfl
theorem Rp.key {M : Addr → Prop} {H : Hp} {v : V} {d : D} {k : Key} (r : Rp M H v d) (h : keyOf d = some k) : v = kV k := by
  cases r <;> cases h <;> rfl
def lookD (k : Key) : List (D × D) → Option D
  | [] => none
  | e :: es => if keyOf e.1 = some k then some e.2 else lookD k es
theorem lookD_dt {k : Key} : ∀ kvs : List (List Key × Int), lookD k (dtD kvs) = none
  | [] => rfl
  | z :: kvs => by
    show (if keyOf (.tuple (z.1.map kD)) = some k then _ else lookD k (dtD kvs)) = none
    rw [if_neg (fun h => nomatch h), lookD_dt kvs]
def dgD : D → D → Option D
  | .dict es, k => (keyOf k).bind fun k => lookD k es
  | _, _ => none
theorem RpKV.val {M : Addr → Prop} {H : Hp} {k : Key} {d : D} : ∀ {kvs : List (Key × V)} {es : List (D × D)}, RpKV M H kvs es → lookD k es = some d → ∃ v, valV kvs k = some v ∧ Rp M H v d
  | _, _, .nil, e => nomatch e
  | _, _, .cons (k := k0) (v := v0) h t, e => by
    unfold lookD at e
    by_cases z : k0 = k
    · rw [if_pos (show keyOf (kD k0) = some k by rw [keyOf_kD, z])] at e
      cases e
      exact ⟨v0, by unfold valV; rw [List.find?_cons_of_pos (by simp [z])]; rfl, h⟩
    · rw [if_neg (show ¬ keyOf (kD k0) = some k by rw [keyOf_kD]; intro q; injection q with q; exact z q)] at e
      obtain ⟨v, e1, r⟩ := t.val e
      exact ⟨v, by unfold valV at e1 ⊢; rw [List.find?_cons_of_neg (by simp [z])]; exact e1, r⟩
def putD (es : List (D × D)) (k : Key) (d : D) : List (D × D) := if (es.any fun e => decide (keyOf e.1 = some k)) = true then es.map (fun e => if keyOf e.1 = some k then (e.1, d) else e) else es ++ [(kD k, d)]
theorem RpKV.any {M : Addr → Prop} {H : Hp} (k : Key) : ∀ {kvs : List (Key × V)} {es : List (D × D)}, RpKV M H kvs es → (kvs.any fun kv => decide (kv.1 = k)) = es.any fun e => decide (keyOf e.1 = some k)
  | _, _, .nil => rfl
  | _, _, .cons (k := k0) h t => by
    rw [List.any_cons, List.any_cons, t.any k]
    congr 1
    show decide (k0 = k) = decide (keyOf (kD k0) = some k)
    rw [keyOf_kD]
    exact decide_eq_decide.mpr ⟨fun h => by rw [h], fun h => by injection h⟩
theorem RpKV.app {M : Addr → Prop} {H : Hp} {k : Key} {v : V} {d : D} (r : Rp M H v d) : ∀ {kvs : List (Key × V)} {es : List (D × D)}, RpKV M H kvs es → RpKV M H (kvs ++ [(k, v)]) (es ++ [(kD k, d)])
  | _, _, .nil => .cons r .nil
  | _, _, .cons h t => .cons h (t.app r)
theorem RpKV.mapP {M : Addr → Prop} {H : Hp} {k : Key} {v : V} {d : D} (r : Rp M H v d) : ∀ {kvs : List (Key × V)} {es : List (D × D)}, RpKV M H kvs es → RpKV M H (kvs.map fun kv => if kv.1 = k then (kv.1, v) else kv) (es.map fun e => if keyOf e.1 = some k then (e.1, d) else e)
  | _, _, .nil => .nil
  | _, _, .cons (k := k0) (v := v0) (d := d0) h t => by
    rw [List.map_cons, List.map_cons]
    by_cases z : k0 = k
    · rw [if_pos z, if_pos (show keyOf (kD k0) = some k by rw [keyOf_kD, z])]
      exact .cons r (t.mapP r)
    · rw [if_neg z, if_neg (show ¬ keyOf (kD k0) = some k by rw [keyOf_kD]; intro q; injection q with q; exact z q)]
      exact .cons h (t.mapP r)
theorem RpKV.put {M : Addr → Prop} {H : Hp} {k : Key} {v : V} {d : D} {kvs : List (Key × V)} {es : List (D × D)} (t : RpKV M H kvs es) (r : Rp M H v d) : RpKV M H (putK kvs k v) (putD es k d) := by
  unfold putK putD
  rw [t.any k]
  split
  · exact t.mapP r
  · exact t.app r
theorem RpKV.len {M : Addr → Prop} {H : Hp} : ∀ {kvs : List (Key × V)} {es : List (D × D)}, RpKV M H kvs es → kvs.length = es.length
  | _, _, .nil => rfl
  | _, _, .cons _ t => congrArg (· + 1) t.len
theorem putK_len (kvs : List (Key × V)) (k : Key) (v : V) : (putK kvs k v).length ≤ kvs.length + 1 := by
  unfold putK
  split
  · rw [List.length_map]; omega
  · rw [List.length_append]; exact Nat.le_refl _
def dcGo (p : Pat) (c : Rho → Option Bool) (fk fv : EF) (ρ : Rho) : List D → List (D × D) → Option (List (D × D))
  | [], acc => some acc
  | x :: xs, acc => (bindP p x ρ).bind fun ρ1 => (c ρ1).bind fun b => if b = true then (fk ρ1).bind fun dk => (keyOf dk).bind fun k => (fv ρ1).bind fun d => dcGo p c fk fv ρ xs (putD acc k d) else dcGo p c fk fv ρ xs acc
def eDc (μ : Bool) (vs : List Nat) (it : Rho → Option (List D)) (p : Pat) (c : Rho → Option Bool) (fk fv : EF) : EF := fun ρ => (it ρ).bind fun items => (dcGo p c fk fv (wipeR (shutR μ ρ) vs) items []).map .dict
theorem dcCore {K : PySem.W.Frag} {μ μk μi pr : Bool} {M0 : Addr → Prop} {H0 H1 : Hp} {σ : L2.St} {ρ : Rho} {J : It} {items : List D} {res : List (D × D)} {p : Pat} {c : Rho → Option Bool} {fk fv : EF} {vs : List Nat} {D : Addr} {Qd : Hp → Prop}
    (R : Rs M0 H0 H1 σ ρ) (dw : ∀ M', (∀ a, M' a → Mu μ M0 σ ρ a ∨ H1 a = none) → DW pr M' H1 J items) (hD : H1 D = none) (hp : p.fits pr = true) (hs : ∀ j, j ∈ slP p → j ∈ vs) (e : dcGo p c fk fv (wipeR (shutR μ ρ) vs) items [] = some res)
    (q : ∀ H kvs, Same H1 H → H D = some (.dK kvs) → RpKV (Mi μ M0 σ ρ D) H kvs res → Qd H) :
    ∃ W : Nat → Nat → Hp → Prop, (∃ m, W 0 m (upd H1 D (.dK []))) ∧ ∀ i m H, W i m H →
      (J.stop i H ∧ Qd H) ∨ (J.go i H ∧ ∃ Nx : Hp → Prop, (∀ H', Nx H' → ∃ m', m' < m ∧ W (i + 1) m' H') ∧ ∀ x H', J.yld i H x H' → gP K p x (wipe σ vs) H' fun σ2 H2 => wipe σ2 vs = wipe σ vs ∧ tT c σ2 H2 fun b H3 =>
        if b = true then tD μk fk σ2 H3 fun y H4 => tD μi fv σ2 H4 fun z H5 => ∃ kvs k, y = kV k ∧ H5 D = some (.dK kvs) ∧ kvs.length < sizeLine ∧ Nx (upd H5 D (.dK (putK kvs k z))) else Nx H3) := by
  have dw := dw (Mi μ M0 σ ρ D) fun a m => m.elim .inl fun z => .inr (by rw [z]; exact hD)
  have sz := dw.sz
  obtain ⟨G, Y, W, hG, hY⟩ := dw.ex
  let I : Nat → Hp → Prop := fun i H => Same H1 H ∧ ∃ kvs acc, H D = some (.dK kvs) ∧ kvs.length ≤ i ∧ RpKV (Mi μ M0 σ ρ D) H kvs acc ∧ dcGo p c fk fv (wipeR (shutR μ ρ) vs) (items.drop i) acc = some res
  refine ⟨fun i m H => i ≤ items.length ∧ m = items.length - i ∧ I i H, ⟨_, Nat.zero_le _, rfl, smN hD, [], [], upd_same, Nat.le_refl _, .nil, e⟩, ?_⟩
  rintro i m H ⟨hi, rfl, sm, kvs, acc, eD, la, ra, er⟩
  by_cases hlt : i < items.length
  · refine .inr ⟨W.goes i H hlt (hG _ (.of sm)), fun H' => I (i + 1) H', fun H' h => ⟨items.length - (i + 1), by omega, hlt, rfl, h⟩, fun v H' y => ?_⟩
    obtain ⟨d, ed, s2, rv⟩ := hY i v H H' (.of sm) (W.yields i H v H' hlt (hG _ (.of sm)) y)
    rw [drop_at ed] at er
    unfold dcGo at er
    obtain ⟨ρ1, e1, er⟩ := some_bind er
    obtain ⟨b, eb, er⟩ := some_bind er
    have Rin := R.inner (μ := μ) hD (sm.trans s2) (s2 _ _ eD) vs
    refine bindP.ok (pr := pr) Rin ?_ hp e1 fun σ2 R2 B2 => ⟨wipe_eq B2.oth B2.len hs, _, _, ρ1, b, R2, eb, fun H3 s3 => ?_⟩
    · rcases rv with rv | ⟨zp, a, xs, ds, z1, z2, z3, z4⟩
      · exact .inl (rv.reM fun a m => .inl (Mi.noOwn a m))
      · exact .inr ⟨zp, a, xs, ds, z1, z2, z3, z4.reM fun a m => .inl (Mi.noOwn a m)⟩
    have s13 := (sm.trans s2).trans s3
    cases b with
    | true =>
      obtain ⟨dk, edk, er⟩ := some_bind (show (fk ρ1).bind _ = some res from er)
      obtain ⟨k, ek, er⟩ := some_bind er
      obtain ⟨dv, edv, er⟩ := some_bind er
      refine ⟨_, _, ρ1, dk, R2.mono s3, edk, fun y H4 s4 r4 => ⟨_, _, ρ1, dv, (R2.mono s3).mono s4, edv, fun z H5 s5 r5 => ?_⟩⟩
      have s35 := s3.trans (s4.trans s5)
      have eD5 := (s2.trans s35) _ _ eD
      have kp : KpM (Mi μ M0 σ ρ D) H5 (upd H5 D (.dK (putK kvs k z))) := fun q o n e => by
        rw [upd_ne (fun z => n (.inr z))]
        exact e
      have r5 : Rp (Mi μ M0 σ ρ D) H5 z dv := r5.reM fun a m => .inl (.inl m)
      refine ⟨kvs, k, r4.key ek, eD5, by omega, fun q o e => ?_, putK kvs k z, putD acc k dv, upd_same, Nat.le_trans (putK_len _ _ _) (by omega), ?_, er⟩
      · rw [upd_ne (ne_of_none e hD)]
        exact (s13.trans (s4.trans s5)) _ _ e
      · exact ((ra.mono (.of (s2.trans s35))).mono kp).put (r5.mono kp)
    | false =>
      exact ⟨s13, kvs, acc, (s2.trans s3) _ _ eD, by omega, ra.mono (.of (s2.trans s3)), er⟩
  · have : i = items.length := by omega
    subst this
    rw [List.drop_length] at er
    cases er
    exact .inl ⟨W.stops H (hG _ (.of sm)), q H kvs sm eD ra⟩
section
variable {X : Cx} {K : PySem.W.Frag}
theorem dE_dc {e : Expr} {it : Rho → Option (List D)} {p : Pat} {c : Rho → Option Bool} {fk fv : EF} {vs : List Nat} {μ μk μi pr : Bool} (h : PE X e (tDc (iD μ pr it) (gP K p) (tT c) (tD μk fk) (tD μi fv) vs)) (hp : p.fits pr = true := by rfl) (hs : ∀ j, j ∈ slP p → j ∈ vs := by decide) : PE X e (tD μ (eDc μ vs it p c fk fv)) := h.wk fun σ H Q q => by
  obtain ⟨M0, H0, ρ, d, R, e, q⟩ := q
  obtain ⟨items, ei, e⟩ := some_bind e
  obtain ⟨res, er, rfl⟩ := some_map e
  exact ⟨M0, H0, ρ, items, R, ei, fun J H1 s1 dw D hD => dcCore (R.mono s1) dw hD hp hs er fun H2 kvs s2 eD ra => q _ _ (s1.trans s2) (.dic eD (((R.mono s1).domu μ).not hD) (ra.reM fun a m => .inl (.inl m)))⟩
theorem dE_dget {o i : Expr} {pos : Pos} {f1 f2 : EF} {μ : Bool} (hu : X.A.units + 1 < cLine) (ho : PE X o (tD μ f1)) (hi : PE X i (tD μ f2)) (hs : NoSl i := by exact fun _ _ => rfl) : PE X (.Subscript o i pos) (tD μ (e2 dgD f1 f2)) := (pe_dget hu ho hi hs).wk fun σ H Q q => by
  obtain ⟨M0, H0, ρ, d, R, e, q⟩ := q
  obtain ⟨a, ea, e⟩ := some_bind e
  obtain ⟨b, eb, e⟩ := some_bind e
  refine ⟨M0, H0, ρ, a, R, ea, fun x H1 s1 r1 => ⟨M0, H0, ρ, b, R.mono s1, eb, fun y H2 s2 r2 => ?_⟩⟩
  cases r1 with
  | dct t n h =>
    obtain ⟨k, ek, e⟩ := some_bind e
    rw [h, lookD_dt] at e
    cases e
  | @dic a kvs es t n h =>
    obtain ⟨k, ek, e⟩ := some_bind e
    obtain ⟨v, ev, rv⟩ := (h.mono (.of s2)).val e
    exact ⟨_, v, rfl, .inl ⟨kvs, k, .inl (s2 _ _ t), r2.key ek, ev.symm⟩, q v H2 (s1.trans s2) rv⟩
  | non => cases e
  | bl b => cases e
  | int i => cases e
  | str x hx => cases e
  | tup t n l r => cases e
  | lst t n l r => cases e
/-! ### a list of one's own, put otherwise at a place -/
def sPut (i : Nat) (f fi : EF) : Rho → Option Out := fun ρ => (f ρ).bind fun d => match ρ[i]? with
  | some (some (.own ds)) => (fi ρ).bind fun x => match x with
    | .int k => (ixN ds.length k).map fun j => .nx (ρ.set i (some (.own (ds.set j d))))
    | _ => none
  | _ => none
theorem dS_put {st : Stmt} {i : Nat} {f fi : EF} (h : PS X st (tAsg (tD true f) (gSub (tVar i) (tD true fi) rSetLL))) : PS X st (tS (sPut i f fi)) := h.wk fun Dn σ H q => by
  obtain ⟨M0, H0, ρ, o, R, e, q⟩ := tS_iff.mp q
  obtain ⟨d, ed, e⟩ := some_bind e
  split at e
  · rename_i ds z
    obtain ⟨x, ex, e⟩ := some_bind e
    cases x <;> try (cases e; done)
    rename_i k
    obtain ⟨j, ej, rfl⟩ := some_map e
    refine ⟨M0, H0, ρ, d, R, ed, fun v H1 s1 r1 => ?_⟩
    obtain ⟨p, vs, a, c, h0, l, r⟩ := (R.mono s1).own i ds z
    refine ⟨.ref p, a, M0, H0, ρ, .int k, R.mono s1, ex, fun y H2 s2 r2 => ?_⟩
    cases r2
    refine ⟨p, vs, k, j, rfl, rfl, s2 _ _ c, by rw [r.len]; exact ej, fun H3 e3 => ?_⟩
    subst e3
    obtain ⟨R3, S3⟩ := ((R.mono s1).mono s2).ownSet z a (s2 _ _ c) (vs' := vs.set j v) (by rw [List.length_set]; exact l) (RpAll.set (r1.mono (.of s2)) j (r.mono (.of s2)))
    exact q _ _ R3 ((Stp.of (s1.trans s2)).trans S3)
  · cases e
/-! ### walks downwards -/
def dnD (hi : Int) (n : Nat) : List D := (List.range n).map fun (i : Nat) => PyData.int (hi - (i : Int))
theorem dnD_len (hi : Int) (n : Nat) : (dnD hi n).length = n := by unfold dnD; rw [List.length_map, List.length_range]
theorem DW.rngC {M : Addr → Prop} {H : Hp} {hi : Int} {n : Nat} (l : n ≤ sizeLine) : DW false M H (Itc hi (-1) n) (dnD hi n) := by
  have hl := dnD_len hi n
  refine ⟨⟨fun _ => True, fun i H x H' => i < n ∧ YFn (fun i => V.int (hi + (i : Nat) * (-1))) i H x H', ?_, fun _ _ => trivial, fun i v Ha Hb k y => ?_⟩, by rw [hl]; exact l⟩
  · rw [hl]
    exact ⟨walk_rangeC.goes, walk_rangeC.stops, fun i H x H' hi g y => ⟨hi, walk_rangeC.yields i H x H' hi g y⟩⟩
  · obtain ⟨hi2, rfl, rfl⟩ := y
    refine ⟨.int (hi + (i : Nat) * (-1)), ?_, Same.refl _, .inl (.int _)⟩
    unfold dnD
    rw [List.getElem?_map, List.getElem?_range hi2]
    show some (PyData.int (hi - (i : Int))) = _
    rw [show hi - (i : Int) = hi + (i : Int) * (-1) by omega]
def ran3D : List D → Option (List D)
  | [.int i, .int j, .int c] => if c = -1 ∧ j ≤ i ∧ -(2 ^ 40) ≤ j ∧ i < 2 ^ 20 ∧ i - j < 2 ^ 20 then some (dnD i (i - j).toNat) else none
  | _ => none
theorem rgc_dn {i j : Int} (h1 : j ≤ i) (h2 : -(2 ^ 40) ≤ j) (h3 : i < 2 ^ 20) : RgC i j (-1) (i - j).toNat := by
  refine ⟨by decide, by decide, ?_, ?_⟩
  · have e : Builtin.Range.rangeSize i j (-1) = i - j := by
      unfold Builtin.Range.rangeSize
      simp
      omega
    unfold Builtin.Range.small Builtin.Range.rangeFitsLong
    rw [e]
    simp
    omega
  · unfold Builtin.Range.rangeSize
    simp
    by_cases h : j < i
    · simp [h]; omega
    · simp [h]; omega
theorem dI_ran3 {tg a b c : Expr} {p pos : Pos} {f : Rho → Option (List D)} {μ : Bool} (hg : Gl X "range") (hm : X.mg "range" = none) (ha : PA X [a, b, c] (tA μ f)) (hs : starEach [a, b, c] X.env = (false, eval a X.env) :: starEach [b, c] X.env := by rfl) (hs2 : (backTo pos (starEach [b, c] X.env)).any (·.1) = false := by rfl) : PI X tg (.Call (.Name "range" p) [a, b, c] [] pos) (iD μ false (itG ran3D f)) := (pi_range3 hg hm ha hs hs2).wk fun σ H R q => by
  obtain ⟨M0, H0, ρ, items, Rr, e, q⟩ := q
  obtain ⟨ds, ed, e⟩ := some_bind e
  refine ⟨M0, H0, ρ, ds, Rr, ed, fun vs H1 s1 r1 => ?_⟩
  unfold ran3D at e
  split at e
  · rename_i i j c
    obtain ⟨⟨rfl, l1, l2, l3, l4⟩, rfl⟩ := iteS e
    cases r1 with
    | cons h1 r1 =>
      cases h1
      cases r1 with
      | cons h2 r1 =>
        cases h2
        cases r1 with
        | cons h3 r1 =>
          cases h3
          cases r1
          exact ⟨i, j, -1, _, rfl, rgc_dn l1 l2 l3, q _ _ s1 fun M' hM => DW.rngC (szR (by omega))⟩
  · cases e
def revR1 (f : EF) : Rho → Option (List D) := fun ρ => (f ρ).bind fun d => match d with
  | .int n => if 0 ≤ n ∧ n < 2 ^ 20 then some (dnD (n - 1) n.toNat) else none
  | _ => none
theorem dI_rev1 {tg a : Expr} {p pos p2 pos2 : Pos} {f : EF} {μ : Bool} (hg : Gl X "reversed") (hm : X.mg "reversed" = none) (hg2 : Gl X "range") (hm2 : X.mg "range" = none) (ha : PE X a (tD μ f)) (na : starEach [a] X.env = (false, eval a X.env) :: starEach [] X.env := by rfl) : PI X tg (.Call (.Name "reversed" p) [.Call (.Name "range" p2) [a] [] pos2] [] pos) (iD μ false (revR1 f)) := (pi_revR hg hm (prg_1 hg2 hm2 ha na)).wk fun σ H R q => by
  obtain ⟨M0, H0, ρ, items, Rr, e, q⟩ := q
  obtain ⟨d, ed, e⟩ := some_bind e
  refine ⟨M0, H0, ρ, d, Rr, ed, fun v H1 s1 r1 => ?_⟩
  cases r1 <;> try (cases e; done)
  rename_i n
  obtain ⟨⟨l1, l2⟩, rfl⟩ := iteS e
  refine ⟨n, rfl, by omega, by omega, by omega, by omega, ?_⟩
  rw [show (0 : Int) + (((n - 0).toNat : Nat) : Int) - 1 = n - 1 by omega, show (n - 0).toNat = n.toNat by omega]
  exact q _ _ s1 fun M' hM => DW.rngC (szR (by omega))
end
end Dl
namespace Dl
open PySem PySem.Spec PyProof.Rows L2 Rt
/-! ### the least of a list of pairs of numbers -/
def prD (p : Int × Int) : D := .tuple [.int p.1, .int p.2]
def prsD : List D → Option (List (Int × Int))
  | [] => some []
  | .tuple [.int a, .int b] :: ds => (prsD ds).map ((a, b) :: ·)
  | _ => none
theorem prsD.map : ∀ ps : List (Int × Int), prsD (ps.map prD) = some ps
  | [] => rfl
  | p :: ps => by
    show (prsD (ps.map prD)).map _ = _
    rw [prsD.map ps]
    rfl
theorem prsD.get : ∀ {ds : List D} {ps : List (Int × Int)}, prsD ds = some ps → ds = ps.map prD
  | [], ps, e => by cases e; rfl
  | d :: ds, ps, e => by
    unfold prsD at e
    split at e
    · rename_i h
      cases h
    · rename_i a b ds' h
      injection h with h1 h2
      subst h1
      subst h2
      obtain ⟨qs, eq, rfl⟩ := some_map e
      rw [prsD.get eq]
      rfl
    · cases e
def leastP : List (Int × Int) → Option (Int × Int)
  | [] => none
  | p :: ps => some (PySem.W.minOf p ps)
def minPD : List D → Option D
  | [.list ds] => ((prsD ds).bind leastP).map prD
  | _ => none
theorem rv_get {M : Addr → Prop} {H : Hp} : ∀ {vs : List V} {us : List Value} {ds : List D} {i : Nat} {u : Value}, Vals vs us → RpAll M H vs ds → us[i]? = some u → ∃ v d, RelV v u ∧ Rp M H v d
  | _, _, _, _, _, .nil, .nil, e => nomatch e
  | _, _, _, 0, _, .cons r _, .cons h _, e => by
    cases e
    exact ⟨_, _, r, h⟩
  | _, _, _, i + 1, _, .cons _ r, .cons _ h, e => rv_get (i := i) r h e
section
variable {X : Cx}
theorem c_minP (hc : X.calm = true) (hu : X.A.units + 64 < cLine) : CallR X (.builtin "min") (rC minPD) := by
  intro pn s σ H xs us Q I r h
  obtain ⟨M, ds, d, dm, ra, e, q⟩ := h
  match ds, ra, e with
  | [.list ds], .cons (.lst t n l rr) .nil, e =>
    obtain ⟨m, em, rfl⟩ := some_map (show ((prsD ds).bind leastP).map prD = some d from e)
    obtain ⟨ps, en, el⟩ := some_bind em
    have hd := prsD.get en
    subst hd
    obtain ⟨its, rv, hl, _⟩ := I.list (SqL.of t)
    rw [Vals.ref1 r]
    obtain ⟨as, ra⟩ := RpAll.reads I rr rv
    cases ps with
    | nil => cases el
    | cons p ps =>
      have el : some (PySem.W.minOf p ps) = some m := el
      injection el with el
      subst el
      refine PySem.W.min_list_datum (α := Int × Int) (x := p) (xs := ps) (I.ok.hd hc) hl.isList ⟨as, show ReadsAll s.heap its.toArray.toList ((p :: ps).map prD) as by simpa using ra⟩ (Nat.lt_of_le_of_lt (show X.A.units + 1 + 1 ≤ X.A.units + 64 by omega) hu) fun i v h' tk hv hm hk => ?_
      obtain ⟨w, dw, rw1, rp⟩ := rv_get (i := i) rv rr (by simpa using hv)
      obtain ⟨bs, rb⟩ := hm
      obtain ⟨cs, rc⟩ := Rp.reads I rp rw1
      have ed := (reads_det (fun b o e _ => hk b o e) rc rb).1
      have ed : prD (PySem.W.minOf p ps) = dw := ed
      subst ed
      exact ⟨w, H, I.kept hk, rw1, q _ _ (Same.refl _) rp⟩
/-! ### a test that is a choice of two tests -/
theorem pt_ifx {c a b : Expr} {pos : Pos} {tc ta tb : L2.TT} (hc : PT X c tc) (ha : PT X a ta) (hb : PT X b tb) : PT X (.IfExp c a b pos) (fun σ H Q => tc σ H fun d H1 => if d = true then ta σ H1 Q else tb σ H1 Q) := ⟨fun pins s σ H Q I h => by
  show wpAny _ _ (do if ← isTrue c X.env (eval c X.env) then isTrue a X.env (eval a X.env) else isTrue b X.env (eval b X.env)) _ _ _
  refine wpAny_bind (wpAny_mono (hc.run pins s σ H _ I h) (fun d s1 ⟨H1, I1, q1⟩ => ?_) fun _ _ x => x)
  cases d with
  | true => exact ha.run pins s1 σ H1 Q I1 q1
  | false => exact hb.run pins s1 σ H1 Q I1 q1⟩
def oIf (c f g : Rho → Option Bool) : Rho → Option Bool := fun ρ => (c ρ).bind fun b => if b = true then f ρ else g ρ
theorem dT_ifx {c a b : Expr} {pos : Pos} {k f g : Rho → Option Bool} (hc : PT X c (tT k)) (ha : PT X a (tT f)) (hb : PT X b (tT g)) : PT X (.IfExp c a b pos) (tT (oIf k f g)) := (pt_ifx hc ha hb).wk fun σ H Q q => by
  obtain ⟨M0, H0, ρ, b, R, e, q⟩ := q
  obtain ⟨c, ec, e⟩ := some_bind e
  refine ⟨M0, H0, ρ, c, R, ec, fun H1 s1 => ?_⟩
  cases c with
  | true => exact ⟨M0, H0, ρ, b, R.mono s1, e, fun H2 s2 => q H2 (s1.trans s2)⟩
  | false => exact ⟨M0, H0, ρ, b, R.mono s1, e, fun H2 s2 => q H2 (s1.trans s2)⟩
/-! ### a, b, c = x, y, z where something is drawn -/
def swPar3 (i j k : Nat) (f : WP (List D)) : WP Out := ⟨fun ρ b Q => f.w ρ b fun ds b' => ∃ x y z, ds = [x, y, z] ∧ Q (.nx (((ρ.set i (some (.dat x))).set j (some (.dat y))).set k (some (.dat z)))) b', fun h z => f.m (fun ds b' ⟨x, y, u, e, w⟩ => ⟨x, y, u, e, h _ _ w⟩) z⟩
theorem nS_par3 {st : Stmt} {i j k : Nat} {f : WP (List D)} (h : PS X st (tPar3 i j k (tnA f))) : PS X st (tSn (swPar3 i j k f)) := h.wk fun Dn σ H q => by
  obtain ⟨g, M0, H0, ρ, b, R, q⟩ := q
  refine ⟨g, M0, H0, ρ, b, R, f.m (fun ds b1 ⟨x, y, z, e, q⟩ vs H1 k1 i1 r1 => ?_) q⟩
  subst e
  match vs, r1 with
  | [v, w, u], .cons ra (.cons rb (.cons rc .nil)) =>
    have sh : ∀ a', Mu true M0 (σ.set i (some v)) (ρ.set i (some (.dat x))) a' → Mu true M0 σ ρ a' := Mu.shrink fun ds e => by cases e
    have R1 := (R.up k1 i1).set (i := i) ra
    have R2 := R1.set (i := j) (rb.reM fun a m => .inl (sh a m))
    have sh2 : ∀ a', Mu true M0 ((σ.set i (some v)).set j (some w)) ((ρ.set i (some (.dat x))).set j (some (.dat y))) a' → Mu true M0 σ ρ a' := fun p m => sh p (Mu.shrink (fun ds e => by cases e) p m)
    have R3 := R2.set (i := k) (rc.reM fun a m => .inl (sh2 a m))
    refine ⟨v, w, u, rfl, q _ _ R3 ((R.stp k1).trans ⟨.refl, fun p m => .inl (sh2 p (Mu.shrink (fun ds e => by cases e) p m))⟩)⟩
/-! ### not in a list of texts, any needle -/
def ninL : D → D → Option D
  | a, .list ds => if ds.all isStrD = true then some (.bool (!ds.any fun z => PyData.eqv z a)) else none
  | _, _ => none
theorem o_ninL (hu : X.A.units + 65 < cLine) : OpR X (compareOp .NotIn) (rD ninL) := by
  intro pn s σ H x y v u Q I rx ry h
  obtain ⟨M, a, b, d, dm, ra, rb, e, q⟩ := h
  cases rb <;> (try (cases ra <;> cases e; done))
  rename_i xs ds t n l r
  obtain ⟨l2, rfl⟩ := iteS (show (if ds.all isStrD = true then some (PyData.bool (!ds.any fun z => PyData.eqv z a)) else none) = some d by cases a <;> exact e)
  cases ry
  obtain ⟨as, r1⟩ := Rp.reads I ra rx
  obtain ⟨its, vi, it, _⟩ := I.list (SqL.of t)
  refine SeqAt.notIn_listAt (eqS a) it.isList (fun y hy => ?_) ⟨.bl _, H, I, ?_, q _ _ (Same.refl _) (.bl _)⟩
  · obtain ⟨b, tk, rfl⟩ := mem_strs r vi l2 y (by simpa using hy)
    exact eqAt_str_any b tk r1 (show X.A.units + 1 < cLine by omega)
  · show Value.bool _ = Value.bool _
    rw [← any_strs r vi l2]
    simp
end
end Dl
namespace Dl
open PySem PySem.Spec PyProof.Rows L2 Rt
/-! ### texts in one -/
theorem iteP {α : Type} {c : Prop} [Decidable c] {a : Option α} {b : α} (h : (if c then a else none) = some b) : c ∧ a = some b := by
  by_cases e : c
  · rw [if_pos e] at h; exact ⟨e, h⟩
  · rw [if_neg e] at h; cases h
theorem strsD.get : ∀ {ds : List D} {ys : List Str}, strsD ds = some ys → ds = ys.map .str
  | [], ys, e => by cases e; rfl
  | d :: ds, ys, e => by
    unfold strsD at e
    split at e
    · rename_i h
      cases h
    · rename_i x ds' h
      injection h with h1 h2
      subst h1
      subst h2
      obtain ⟨qs, eq, rfl⟩ := some_map e
      rw [strsD.get eq]
      rfl
    · cases e
def joinD : D → D → Option D
  | .str a, .list ds => (strsD ds).bind fun ys => if (ys.map (·.length)).sum + ys.length * a.length ≤ 1000000 ∧ (Txt.join a ys).length ≤ sizeLine then some (.str (Txt.join a ys)) else none
  | .str a, .tuple ds => (strsD ds).bind fun ys => if (ys.map (·.length)).sum + ys.length * a.length ≤ 1000000 ∧ (Txt.join a ys).length ≤ sizeLine then some (.str (Txt.join a ys)) else none
  | _, _ => none
def splitD : D → D → Option D
  | .str a, .str b => if (b.length == 0) = false ∧ a.length + 2 ≤ sizeLine ∧ (Txt.split a b).length ≤ sizeLine ∧ ∀ x ∈ Txt.split a b, x.length ≤ sizeLine then some (.list ((Txt.split a b).map .str)) else none
  | _, _ => none
def strX : D → Prop
  | .str _ => True
  | _ => False
theorem RpAll.strM {M : Addr → Prop} {H : Hp} : ∀ {ys : List Str}, (∀ y ∈ ys, y.length ≤ sizeLine) → RpAll M H (ys.map V.str) (ys.map .str)
  | [], _ => .nil
  | y :: ys, h => .cons (.str y (h y (by simp))) (RpAll.strM fun x hx => h x (by simp [hx]))
def fmtD : D → Option D
  | .str y => some (.str y)
  | .int i => if i.natAbs < 10 ^ 30 then some (.str (Str.ofString (toString i))) else none
  | _ => none
def jGo : List EF → Rho → Str → Option Str
  | [], _, acc => some acc
  | f :: fs, ρ, acc => (f ρ).bind fun d => match d with
    | .str y => if (acc ++ y).length ≤ sizeLine then jGo fs ρ (acc ++ y) else none
    | _ => none
def eJn (fs : List EF) : EF := fun ρ => (jGo fs ρ Str.empty).map .str
def intT : List D → Option D
  | [.str a] => (intText? a).bind fun n => if a.length ≤ 640 then some (.int n) else none
  | ds => intD ds
def mulZ : D → D → Option D
  | .str z, .int n => if n = 0 then some (.str Str.empty) else mulX (.str z) (.int n)
  | a, b => mulX a b
def upD (lo c : Int) (n : Nat) : List D := (List.range n).map fun (i : Nat) => PyData.int (lo + (i : Int) * c)
theorem upD_len (lo c : Int) (n : Nat) : (upD lo c n).length = n := by unfold upD; rw [List.length_map, List.length_range]
theorem DW.rngU {M : Addr → Prop} {H : Hp} {lo c : Int} {n : Nat} (l : n ≤ sizeLine) : DW false M H (Itc lo c n) (upD lo c n) := by
  have hl := upD_len lo c n
  refine ⟨⟨fun _ => True, fun i H x H' => i < n ∧ YFn (fun i => V.int (lo + (i : Nat) * c)) i H x H', ?_, fun _ _ => trivial, fun i v Ha Hb k y => ?_⟩, by rw [hl]; exact l⟩
  · rw [hl]
    exact ⟨walk_rangeC.goes, walk_rangeC.stops, fun i H x H' lo' g y => ⟨lo', walk_rangeC.yields i H x H' lo' g y⟩⟩
  · obtain ⟨hi2, rfl, rfl⟩ := y
    refine ⟨.int (lo + (i : Nat) * c), ?_, Same.refl _, .inl (.int _)⟩
    unfold upD
    rw [List.getElem?_map, List.getElem?_range hi2]
    rfl
/-- range(0, n, 3) -/
def ranU : List D → Option (List D)
  | [.int i, .int j, .int c] => if i = 0 ∧ c = 3 ∧ 0 ≤ j ∧ j < 2 ^ 20 then some (upD 0 3 ((j + 2) / 3).toNat) else none
  | _ => none
theorem rgc_up {j : Int} (h1 : 0 ≤ j) (h2 : j < 2 ^ 20) : RgC 0 j 3 ((j + 2) / 3).toNat := by
  have e : Builtin.Range.rangeSize 0 j 3 = (j + 2) / 3 := by
    unfold Builtin.Range.rangeSize
    simp
    by_cases h : 0 < j
    · simp [h]; omega
    · simp [h]; omega
  refine ⟨by decide, by decide, ?_, ?_⟩
  · unfold Builtin.Range.small Builtin.Range.rangeFitsLong
    rw [e]
    simp
    omega
  · rw [e]
    omega
theorem unp_star {prog : Program} {w : World} {A : Around} {E : Value → Shared → Prop} {s : Shared} {l : Addr} {items : Array Value} {n : Nat} {Q : List Value → Shared → Prop} (hh : A.handled = none) (hl : s.heap.IsList l items) (hn : n ≤ items.size) (hz : items.size ≤ 16384)
    (h : ∀ (h' : Heap) (tk : Nat), (∀ b o, s.heap.get? b = some o → h'.get? b = some o) → Q (items.toList.take n ++ [.ref h'.objs.size]) { s with heap := h'.push { cls := .type "list", data := .seq (items.toList.drop n).toArray }, toks := tk }) :
    wpAny (model prog w) A (unpackItems (.ref l) (n + 1) (some n)) Q E s := by
  have hlt : l ≠ s.heap.objs.size := by obtain ⟨o, ho, _⟩ := hl; exact Nat.ne_of_lt (Heap.lt_size ho)
  unfold unpackItems
  refine wpAny_bind ?_
  unfold notIterableAtAll
  refine wpAny_bind (wpAny_specialOf hl.typeIs slot_list_iter.lookup (wpAny_pure ?_))
  simp only [Bool.false_eq_true, if_false]
  refine wpAny_bind (wpAny_holding (wpAny_pyIter_list hl ?_))
  refine wpAny_bind (wpAny_holding (PySem.W.kun_draw hlt n 0 _ _ ⟨_, Heap.get?_push_size _ rfl, rfl, rfl⟩ (hl.push _) (by omega) fun h1 it1 s1 => ?_))
  have hl1 : h1.IsList l items := (hl.push _).extBut s1.extBut hlt
  rw [Nat.zero_add] at it1
  rw [List.drop_zero]
  have lt : (items.toList.take n).length = n := by rw [List.length_take, Array.length_toList]; omega
  rw [if_neg (show ¬ ((items.toList.take n).length < n) by omega)]
  have hIt := it1
  have hLs := hl1
  obtain ⟨oi, hoi, _⟩ := hIt
  obtain ⟨ol, hol, _⟩ := hLs
  refine wpAny_bind (wpAny_holding (PySem.W.kun_collect (s := { s with heap := h1 }) (T := "list_iterator") (.inr (.inr (.inl rfl))) (Walks.list (A := A.in1) hh s.heap.objs.size l hlt items) (fun j u st => st.1.typeIs) (k := n) hn ⟨it1, hl1⟩ (Heap.lt_size hoi) (Heap.lt_size hol) (fun h2 tk k2 => ?_) (by rw [sizeLine_eq]; omega)))
  have lr : (items.toList.drop n).length = items.size - n := by rw [List.length_drop, Array.length_toList]
  have k3 : ∀ b o, s.heap.get? b = some o → h2.get? b = some o := fun b o e => k2 b o (Nat.ne_of_lt (Heap.lt_size e)) (s1.extBut b o (Nat.ne_of_lt (Heap.lt_size e)) (Heap.get?_push_of_some _ e))
  show wpAny _ _ (if (items.toList.drop n).length < n + 1 - 1 - n then _ else _) _ _ _
  rw [if_neg (by omega)]
  have e0 : (items.toList.drop n).length - (n + 1 - 1 - n) = (items.toList.drop n).length := by omega
  rw [e0, List.take_length, List.drop_length]
  refine wpAny_bind (wpAny_newList (s := { s with heap := h2, toks := tk }) (wpAny_pure ?_) (by rw [sizeLine_eq]; omega))
  rw [List.append_nil]
  exact h h2 tk k3
/-- a, b, *c = a list -/
def gStar (K : PySem.W.Frag) (n : Nat) (t : TGs) : TG := fun v σ H Q => ∃ a xs, v = .ref a ∧ SqL K H a xs ∧ n ≤ xs.length ∧ xs.length ≤ 16384 ∧ ∀ p, H p = none → t (xs.take n ++ [.ref p]) σ (upd H p (.lst (xs.drop n))) Q
theorem vals_take : ∀ {xs : List V} {us : List Value} (n : Nat), Vals xs us → Vals (xs.take n) (us.take n)
  | _, _, 0, _ => .nil
  | _, _, n + 1, .nil => .nil
  | _, _, n + 1, .cons r t => .cons r (vals_take n t)
theorem vals_drop : ∀ {xs : List V} {us : List Value} (n : Nat), Vals xs us → Vals (xs.drop n) (us.drop n)
  | _, _, 0, h => h
  | _, _, n + 1, .nil => .nil
  | _, _, n + 1, .cons r t => vals_drop n t
section
variable {X : Cx} {K : PySem.W.Frag}
theorem pg_star {es : List Expr} {k : Nat} {pos : Pos} {t : TGs} {n : Nat} (hc : X.calm = true) (h : PGs X es t) (hn : (assignEach es X.env).length = n + 1 := by rfl) (hst : (assignEach es X.env).findIdx? (·.1) = some n := by rfl) : PG X (.Tuple es k pos) (gStar X.K n t) := by
  refine ⟨fun pins s σ H v u Q I r hw => ?_⟩
  obtain ⟨a, xs, e1, hq, hl, hz, hw⟩ := hw
  subst e1
  cases r
  obtain ⟨its, rv, pl, _⟩ := I.list hq
  have hsz : its.toArray.size = xs.length := by rw [List.size_toArray, rv.length]
  rw [PyProof.Rows.assign_Tuple]
  refine wpAny_bind (wpAny_standAt ?_)
  unfold unpack
  rw [hn, hst]
  refine wpAny_bind (wpAny_holding (unp_star (I.ok.hd hc) pl.isList (by omega) (by omega) fun h' tk kk => ?_))
  have I1 : L2.Inv X pins σ H { s with heap := h', toks := tk } := I.kept (t' := tk) kk
  have fr := I1.hok.fresh (Nat.le_refl _)
  have I2 : L2.Inv X pins σ (upd H h'.objs.size (.lst (xs.drop n))) { s with heap := h'.push { cls := .type "list", data := .seq (its.drop n).toArray }, toks := tk } :=
    I1.laid (fun b u q => Heap.get?_push_of_some _ q) (Nat.le_refl _) ⟨by rw [List.length_drop, sizeLine_eq]; omega, its.drop n, _, vals_drop n rv, Heap.get?_push_size _ rfl⟩
  exact h.run pins _ σ _ _ _ Q I2 (by simpa using (vals_take n rv).append (show Vals [V.ref h'.objs.size] [Value.ref h'.objs.size] from .cons (show RelV (V.ref h'.objs.size) (Value.ref h'.objs.size) from rfl) .nil)) (hw _ fr)
/-- what the names then hold -/
def bindSt (n : Nat) (ps : Pats) (ds : List D) (ρ : Rho) : Option Rho := if n ≤ ds.length ∧ ds.length ≤ 16384 then bindPs ps (ds.take n ++ [.list (ds.drop n)]) ρ else none
def sAsgS (n : Nat) (ps : Pats) (f : EF) : Rho → Option Out := fun ρ => (f ρ).bind fun d => match d with
  | .list ds => (bindSt n ps ds ρ).map .nx
  | _ => none
theorem dS_asgS {st : Stmt} {n : Nat} {ps : Pats} {f : EF} (h : PS X st (tAsg (tD true f) (gStar K n (gPs K ps)))) : PS X st (tS (sAsgS n ps f)) := h.wk fun Dn σ H q => by
  obtain ⟨M0, H0, ρ, o, R, e, q⟩ := q
  obtain ⟨d, ed, e'⟩ := some_bind e
  clear e
  refine ⟨M0, H0, ρ, d, R, ed, fun v H1 s1 r1 => ?_⟩
  cases d <;> try (cases e'; done)
  obtain ⟨ρ1, e1, rfl⟩ := some_map e'
  obtain ⟨⟨l1, l2⟩, e1⟩ := iteP e1
  cases r1
  rename_i a xs t nn l r
  refine ⟨_, xs, rfl, SqL.of t, by rw [r.len]; exact l1, by rw [r.len]; exact l2, fun p hp => ?_⟩
  have R1 := R.mono s1
  have sn := smN (o := HO.lst (xs.drop n)) hp
  have R2 := R1.mono sn
  have r2 := r.mono (.of sn)
  have nm : ¬ Mu true M0 σ ρ p := (R1.domu true).not hp
  refine bindPs.ok R2 (vs := xs.take n ++ [.ref p]) ((r2.take n).app (.cons (.lst upd_same nm (by rw [List.length_drop]; omega) (r2.drop n)) .nil)) e1 fun σ1 R3 B1 => q σ1 _ R3 ⟨.of (s1.trans sn), fun p m => .inl (B1.mu p m)⟩
theorem ev_asgS {n : Nat} {ps : Pats} {f : EF} {g : Rho → Option Out} {ρ ρ' : Rho} {ds : List D} (hf : f ρ = some (.list ds)) (hb : bindSt n ps ds ρ = some ρ') : sSeq (sAsgS n ps f) g ρ = g ρ' := by
  unfold sSeq sAsgS
  rw [hf]
  show ((bindSt n ps ds ρ).map Out.nx).bind _ = _
  rw [hb]
  rfl
/-! ### the steps -/
theorem dE_join {o e : Expr} {apos pos : Pos} {f g : EF} {μ : Bool} (ho : PE X o (tD μ f)) (he : PE X e (tD μ g)) (hs : starEach [e] X.env = [(false, eval e X.env)] := by rfl) (hbase : attributeBase o "join" X.env (eval o X.env) = eval o X.env := by rfl) (hline : (apos.endLine == pos.line) = true := by rfl) :
    PE X (.Call (.Attribute o "join" apos) [e] [] pos) (tD μ (e2 joinD f g)) := (pe_join ho he hs hbase hline).wk fun σ H Q q => by
  obtain ⟨M0, H0, ρ, d, R, e, q⟩ := q
  obtain ⟨x, ex, e⟩ := some_bind e
  obtain ⟨y, ey, e⟩ := some_bind e
  refine ⟨M0, H0, ρ, x, R, ex, fun v H1 s1 r1 => ?_⟩
  cases x <;> try (cases e; done)
  rename_i a
  cases r1
  refine ⟨⟨_, rfl⟩, M0, H0, ρ, y, R.mono s1, ey, fun u H2 s2 r2 => ?_⟩
  cases r2 <;> try (cases e; done)
  · rename_i p xs ds t n l r
    obtain ⟨ys, ez, e⟩ := some_bind (show (strsD ds).bind _ = some d from e)
    obtain ⟨⟨l1, l2⟩, rfl⟩ := iteS e
    have := strsD.get ez
    subst this
    obtain ⟨rfl, _⟩ := r.strL
    exact ⟨_, _, ys, rfl, rfl, .inr t.sq, by omega, q _ H2 (s1.trans s2) (.str _ l2)⟩
  · rename_i p xs ds t n l r
    obtain ⟨ys, ez, e⟩ := some_bind (show (strsD ds).bind _ = some d from e)
    obtain ⟨⟨l1, l2⟩, rfl⟩ := iteS e
    have := strsD.get ez
    subst this
    obtain ⟨rfl, _⟩ := r.strL
    exact ⟨_, _, ys, rfl, rfl, .inl (SqL.of t), by omega, q _ H2 (s1.trans s2) (.str _ l2)⟩
theorem dE_split {o e : Expr} {apos pos : Pos} {f g : EF} {μ : Bool} (ho : PE X o (tD μ f)) (he : PE X e (tD μ g)) (hs : starEach [e] X.env = [(false, eval e X.env)] := by rfl) (hbase : attributeBase o "split" X.env (eval o X.env) = eval o X.env := by rfl) (hline : (apos.endLine == pos.line) = true := by rfl) :
    PE X (.Call (.Attribute o "split" apos) [e] [] pos) (tD μ (e2 splitD f g)) := (pe_split ho he hs hbase hline).wk fun σ H Q q => by
  obtain ⟨M0, H0, ρ, d, R, e, q⟩ := q
  obtain ⟨x, ex, e⟩ := some_bind e
  obtain ⟨y, ey, e⟩ := some_bind e
  refine ⟨M0, H0, ρ, x, R, ex, fun v H1 s1 r1 => ?_⟩
  cases x <;> try (cases e; done)
  rename_i a
  cases r1
  refine ⟨⟨_, rfl⟩, M0, H0, ρ, y, R.mono s1, ey, fun u H2 s2 r2 => ?_⟩
  cases r2 <;> try (cases e; done)
  rename_i b hb
  obtain ⟨⟨l1, l2, l3, l4⟩, rfl⟩ := iteS e
  refine ⟨_, _, rfl, rfl, l1, l2, fun p hp => ?_⟩
  exact q _ _ ((s1.trans s2).trans (smN hp)) (.lst upd_same ((((R.mono s1).mono s2).domu μ).not hp) (by rw [List.length_map]; exact l3) (RpAll.strM l4))
theorem dE_fmt {e : Expr} {pos : Pos} {f : EF} {μ : Bool} (he : PE X e (tD μ f)) : PE X (.FormattedValue e (-1) none pos) (tD μ (e1 fmtD f)) := (pe_fmt he).wk fun σ H Q q => by
  obtain ⟨M0, H0, ρ, d, R, e, q⟩ := q
  obtain ⟨x, ex, e⟩ := some_bind e
  refine ⟨M0, H0, ρ, x, R, ex, fun v H1 s1 r1 => ?_⟩
  cases r1 <;> try (cases e; done)
  · rename_i i
    obtain ⟨l, rfl⟩ := iteS e
    refine .inr ⟨i, rfl, Nat.lt_trans (log30 l) (by decide), q _ _ s1 (.str _ ?_)⟩
    have := int_text_length_le10 (a := i) (k := 30) (by decide) l
    show (Str.ofString (toString i)).length ≤ sizeLine
    rw [PySem.ofString_length]
    exact Nat.le_trans this (by decide)
  · rename_i y hy
    cases e
    exact .inl ⟨y, rfl, hy, q _ _ s1 (.str _ hy)⟩
def PJd (X : Cx) (μ : Bool) (es : List Expr) (fs : List EF) : Prop := PJ X es (fs.map (tD μ))
theorem dJ_nil {μ : Bool} : PJd X μ [] [] := .nil
theorem dJ_cons {μ : Bool} {e : Expr} {f : EF} {es : List Expr} {fs : List EF} (h : PE X e (tD μ f)) (r : PJd X μ es fs) : PJd X μ (e :: es) (f :: fs) := .cons h r
theorem jn_ok {μ : Bool} {Q : V → Hp → Prop} {M0 : Addr → Prop} {H0 : Hp} {ρ : Rho} {σ : L2.St} {out : Str} : ∀ {fs : List EF} {acc : Str} {H : Hp}, acc.length ≤ sizeLine → Rs M0 H0 H σ ρ → jGo fs ρ acc = some out → (∀ H', Same H H' → Rp (Mu μ M0 σ ρ) H' (.str out) (.str out) → Q (.str out) H') → tJs (fs.map (tD μ)) acc σ H fun o H1 => Q (.str o) H1
  | [], acc, H, l, R, e, q => by
    cases e
    exact q H (Same.refl _) (.str _ l)
  | f :: fs, acc, H, l, R, e, q => by
    obtain ⟨d, ed, e⟩ := some_bind (show (f ρ).bind _ = some out from e)
    cases d <;> try (cases e; done)
    rename_i y
    obtain ⟨l2, e⟩ := iteP e
    refine ⟨M0, H0, ρ, .str y, R, ed, fun v H1 s1 r1 => ?_⟩
    cases r1
    exact ⟨y, rfl, l2, jn_ok l2 (R.mono s1) e fun H' s' r' => q H' (s1.trans s') r'⟩
theorem dE_joined {v1 v2 : Expr} {rest : List Expr} {fs : List EF} {pos : Pos} {μ : Bool} (h : PJd X μ (v1 :: v2 :: rest) fs) : PE X (.JoinedStr (v1 :: v2 :: rest) pos) (tD μ (eJn fs)) := (pe_joined h).wk fun σ H Q q => by
  obtain ⟨M0, H0, ρ, d, R, e, q⟩ := q
  obtain ⟨out, eo, rfl⟩ := some_map e
  exact jn_ok (Nat.zero_le _) R eo fun H' s' r' => q _ H' s' r'
theorem dI_ranU {tg a b c : Expr} {p pos : Pos} {f : Rho → Option (List D)} {μ : Bool} (hg : Gl X "range") (hm : X.mg "range" = none) (ha : PA X [a, b, c] (tA μ f)) (hs : starEach [a, b, c] X.env = (false, eval a X.env) :: starEach [b, c] X.env := by rfl) (hs2 : (backTo pos (starEach [b, c] X.env)).any (·.1) = false := by rfl) : PI X tg (.Call (.Name "range" p) [a, b, c] [] pos) (iD μ false (itG ranU f)) := (pi_range3 hg hm ha hs hs2).wk fun σ H R q => by
  obtain ⟨M0, H0, ρ, items, Rr, e, q⟩ := q
  obtain ⟨ds, ed, e⟩ := some_bind e
  refine ⟨M0, H0, ρ, ds, Rr, ed, fun vs H1 s1 r1 => ?_⟩
  unfold ranU at e
  split at e
  · rename_i i j c
    obtain ⟨⟨rfl, rfl, l1, l2⟩, rfl⟩ := iteS e
    cases r1 with
    | cons h1 r1 =>
      cases h1
      cases r1 with
      | cons h2 r1 =>
        cases h2
        cases r1 with
        | cons h3 r1 =>
          cases h3
          cases r1
          exact ⟨0, j, 3, _, rfl, rgc_up l1 l2, q _ _ s1 fun M' hM => DW.rngU (szR (by omega))⟩
  · cases e
theorem c_intT : CallR X (.type "int") (rC intT) := by
  intro pn s σ H xs us Q I r h
  obtain ⟨M, ds, d, dm, ra, e, q⟩ := h
  by_cases hz : ∃ a, ds = [.str a]
  · obtain ⟨a, rfl⟩ := hz
    obtain ⟨n, en, e⟩ := some_bind (show (intText? a).bind _ = some d from e)
    obtain ⟨l, rfl⟩ := iteS e
    cases ra with
    | cons r1 rr =>
      cases rr
      cases r1
      exact call_int_str pn s σ H _ us Q I r ⟨a, n, rfl, en, l, q _ _ (Same.refl _) (.int _)⟩
  · refine c_int pn s σ H xs us Q I r ⟨M, ds, d, dm, ra, ?_, q⟩
    unfold intT at e
    split at e
    · exact (hz ⟨_, rfl⟩).elim
    · exact e
theorem o_mulZ : OpR X (binaryOp .Mult) (rD mulZ) := by
  intro pn s σ H x y v u Q I rx ry h
  obtain ⟨M, a, b, d, dm, ra, rb, e, q⟩ := h
  by_cases hz : ∃ z, a = .str z ∧ b = .int 0
  · obtain ⟨z, rfl, rfl⟩ := hz
    cases e
    cases ra
    cases rb
    obtain ⟨t, rfl⟩ := rx
    obtain ⟨t', rfl⟩ := ry
    exact PySem.P.mul_str_none (by decide) (by decide) ⟨.str Str.empty, H, I.tok _, ⟨_, rfl⟩, q _ _ (Same.refl _) (.str _ (Nat.zero_le _))⟩
  · refine o_mulX pn s σ H _ _ v u Q I rx ry ⟨M, a, b, d, dm, ra, rb, ?_, q⟩
    unfold mulZ at e
    split at e
    · rename_i z n
      by_cases h0 : n = 0
      · exact (hz ⟨z, rfl, by rw [h0]⟩).elim
      · rw [if_neg h0] at e
        exact e
    · exact e
end
end Dl
namespace Dl
open PySem PySem.Spec PyProof.Rows L2 Rt
/-! ### while -/
def whGo (c : Rho → Option Bool) (body : Rho → Option Out) : Nat → Rho → Option Out
  | 0, _ => none
  | n + 1, ρ => (c ρ).bind fun b => if b = true then (body ρ).bind fun o => match o with
    | .nx ρ2 => whGo c body n ρ2
    | .ct ρ2 => whGo c body n ρ2
    | .bk ρ2 => some (.nx ρ2)
    | .rt d => some (.rt d) else some (.nx ρ)
theorem whGo_up {c : Rho → Option Bool} {body : Rho → Option Out} : ∀ {n m : Nat} {ρ : Rho} {o : Out}, n ≤ m → whGo c body n ρ = some o → whGo c body m ρ = some o
  | 0, _, _, _, _, h => nomatch h
  | n + 1, 0, _, _, hn, _ => absurd hn (Nat.not_succ_le_zero _)
  | n + 1, m + 1, ρ, o, hn, h => by
    unfold whGo at h ⊢
    obtain ⟨b, eb, h⟩ := some_bind h
    rw [eb]
    show (if b = true then _ else _) = _
    cases b with
    | false => exact h
    | true =>
      obtain ⟨o1, eo, h⟩ := some_bind (show (body ρ).bind _ = some o from h)
      show (body ρ).bind _ = _
      rw [eo]
      cases o1 with
      | nx ρ2 => exact whGo_up (Nat.le_of_succ_le_succ hn) h
      | ct ρ2 => exact whGo_up (Nat.le_of_succ_le_succ hn) h
      | bk ρ2 => exact h
      | rt d => exact h
noncomputable def sWh (c : Rho → Option Bool) (body : Rho → Option Out) : Rho → Option Out := fun ρ => @dite _ (∃ o n, whGo c body n ρ = some o) (Classical.propDecidable _) (fun h => some h.choose) (fun _ => none)
theorem sWh_of {c : Rho → Option Bool} {body : Rho → Option Out} {ρ : Rho} {o : Out} (n : Nat) (h : whGo c body n ρ = some o) : sWh c body ρ = some o := by
  unfold sWh
  have z : ∃ o n, whGo c body n ρ = some o := ⟨o, n, h⟩
  rw [dif_pos z]
  obtain ⟨m, hm⟩ := z.choose_spec
  have h1 := whGo_up (Nat.le_max_left n m) h
  have h2 := whGo_up (Nat.le_max_right n m) hm
  rw [h1] at h2
  rw [← Option.some.inj h2]
theorem sWh_get {c : Rho → Option Bool} {body : Rho → Option Out} {ρ : Rho} {o : Out} (h : sWh c body ρ = some o) : ∃ n, whGo c body n ρ = some o := by
  unfold sWh at h
  by_cases z : ∃ o n, whGo c body n ρ = some o
  · rw [dif_pos z] at h
    cases h
    exact z.choose_spec
  · rw [dif_neg z] at h
    cases h
section
variable {X : Cx} {K : PySem.W.Frag}
theorem dS_while {st : Stmt} {c : Rho → Option Bool} {body : Rho → Option Out} (h : PS X st (tWhile (tT c) (tS body))) : PS X st (tS (sWh c body)) := h.wk fun Dn σ H q => by
  obtain ⟨M0, H0, ρ, o, R, e, q⟩ := tS_iff.mp q
  obtain ⟨n, e⟩ := sWh_get e
  refine ⟨fun m σ' H' => ∃ ρ', Rs M0 H0 H' σ' ρ' ∧ Stp M0 σ ρ H σ' ρ' H' ∧ whGo c body m ρ' = some o, ⟨n, ρ, R, .refl, e⟩, ?_⟩
  rintro m σ' H' ⟨ρ', R', st, e⟩
  cases m with
  | zero => cases e
  | succ m =>
    unfold whGo at e
    obtain ⟨b, eb, e⟩ := some_bind e
    refine ⟨M0, H0, ρ', b, R', eb, fun H1 s1 => ?_⟩
    cases b with
    | false =>
      cases e
      exact q σ' H1 (R'.mono s1) (st.trans (.of s1))
    | true =>
      obtain ⟨o1, eo, e⟩ := some_bind (show (body ρ').bind _ = some o from e)
      refine ⟨fun σ3 H3 => ∃ ρ3, Rs M0 H0 H3 σ3 ρ3 ∧ Stp M0 σ ρ H σ3 ρ3 H3 ∧ whGo c body m ρ3 = some o, fun σ3 H3 h => ⟨m, Nat.lt_succ_self _, h⟩, tS_iff.mpr ⟨M0, H0, ρ', o1, R'.mono s1, eo, ?_⟩⟩
      have st1 := st.trans (Stp.of (σ := σ') (ρ := ρ') s1)
      cases o1 with
      | nx ρ2 => exact fun σ3 H3 R3 s3 => ⟨ρ2, R3, st1.trans s3, e⟩
      | ct ρ2 => exact fun σ3 H3 R3 s3 => ⟨ρ2, R3, st1.trans s3, e⟩
      | bk ρ2 => cases e; exact fun σ3 H3 R3 s3 => q σ3 H3 R3 (st1.trans s3)
      | rt d => cases e; exact q
def whN (c : WP Bool) (body : WP Out) : Nat → Rho → Nat → (Out → Nat → Prop) → Prop
  | 0, _, _, _ => False
  | n + 1, ρ, b, Q => c.w ρ b fun k b1 => if k = true then body.w ρ b1 fun o b2 => match o with
    | .nx ρ2 => whN c body n ρ2 b2 Q
    | .ct ρ2 => whN c body n ρ2 b2 Q
    | .bk ρ2 => Q (.nx ρ2) b2
    | .rt d => Q (.rt d) b2 else Q (.nx ρ) b1
theorem whN.mono {c : WP Bool} {body : WP Out} : ∀ {n : Nat} {ρ : Rho} {b : Nat} {P Q : Out → Nat → Prop}, (∀ o b, P o b → Q o b) → whN c body n ρ b P → whN c body n ρ b Q
  | 0, _, _, _, _, _, h => h.elim
  | n + 1, ρ, b, P, Q, hm, h => c.m (fun k b1 y => by
      cases k with
      | false => exact hm _ _ y
      | true => exact body.m (fun o b2 z => by
          cases o with
          | nx ρ2 => exact whN.mono hm z
          | ct ρ2 => exact whN.mono hm z
          | bk ρ2 => exact hm _ _ z
          | rt d => exact hm _ _ z) y) h
def swWh (c : WP Bool) (body : WP Out) : WP Out := ⟨fun ρ b Q => ∃ n, whN c body n ρ b Q, fun h ⟨n, z⟩ => ⟨n, whN.mono h z⟩⟩
theorem nS_while {st : Stmt} {c : WP Bool} {body : WP Out} (h : PS X st (tWhile (tnT c) (tSn body))) : PS X st (tSn (swWh c body)) := h.wk fun Dn σ H q => by
  obtain ⟨g, M0, H0, ρ, b, R, n, q⟩ := q
  refine ⟨fun m σ' H' => ∃ ρ' b', Rn g M0 H0 H' σ' ρ' b' ∧ Stp M0 σ ρ H σ' ρ' H' ∧ whN c body m ρ' b' fun o b2 => PostN g M0 H0 σ ρ H Dn o b2, ⟨n, ρ, b, R, .refl, q⟩, ?_⟩
  rintro m σ' H' ⟨ρ', b', R', st, e⟩
  cases m with
  | zero => exact e.elim
  | succ m =>
    refine ⟨g, M0, H0, ρ', b', R', c.m (fun k b1 e H1 k1 i1 => ?_) e⟩
    have R1 := R'.up k1 i1
    have st1 := st.trans (R'.stp k1)
    cases k with
    | false => exact (show PostN g M0 H0 σ ρ H Dn (.nx ρ') b1 from e) σ' H1 R1 st1
    | true =>
      refine ⟨fun σ3 H3 => ∃ ρ3 b3, Rn g M0 H0 H3 σ3 ρ3 b3 ∧ Stp M0 σ ρ H σ3 ρ3 H3 ∧ whN c body m ρ3 b3 fun o b2 => PostN g M0 H0 σ ρ H Dn o b2, fun σ3 H3 h => ⟨m, Nat.lt_succ_self _, h⟩, g, M0, H0, ρ', b1, R1, body.m (fun o b2 e => ?_) e⟩
      cases o with
      | nx ρ2 => exact fun σ3 H3 R3 s3 => ⟨ρ2, b2, R3, st1.trans s3, e⟩
      | ct ρ2 => exact fun σ3 H3 R3 s3 => ⟨ρ2, b2, R3, st1.trans s3, e⟩
      | bk ρ2 => exact fun σ3 H3 R3 s3 => (show PostN g M0 H0 σ ρ H Dn (.nx ρ2) b2 from e) σ3 H3 R3 (st1.trans s3)
      | rt d => exact e
/-! ### xs.remove(k) of a list of one's own -/
def swRem (i : Nat) (f : WP (List D)) : WP Out := ⟨fun ρ b Q => ∃ ns : List Int, ρ[i]? = some (some (.own (ns.map PyData.int))) ∧ f.w ρ b fun es b' => ∃ (k : Int) (j : Nat), es = [.int k] ∧ ns[j]? = some k ∧ (∀ m : Nat, m < j → ns[m]? ≠ some k) ∧ Q (.nx (ρ.set i (some (.own ((ns.eraseIdx j).map PyData.int))))) b', fun h ⟨ds, e, z⟩ => ⟨ds, e, f.m (fun es b' ⟨d, j, e2, l, l2, y⟩ => ⟨d, j, e2, l, l2, h _ _ y⟩) z⟩⟩
theorem intsW_rp {M : Addr → Prop} {H : Hp} : ∀ ns : List Int, RpAll M H (ns.map V.int) (ns.map PyData.int)
  | [] => .nil
  | n :: ns => .cons (.int n) (intsW_rp ns)
theorem rpW_ints {M : Addr → Prop} {H : Hp} : ∀ {vs : List V} {ns : List Int}, RpAll M H vs (ns.map PyData.int) → vs = ns.map V.int
  | [], [], _ => rfl
  | _, [], h => by cases h; rfl
  | _, n :: ns, h => by
    cases h with
    | cons r t =>
      cases r
      rw [rpW_ints t]
      rfl
theorem nS_rem {st : Stmt} {i : Nat} {f : WP (List D)} (h : PS X st (tDrop (tBM K "list" rRemI (tVar i) (tnA f)))) : PS X st (tSn (swRem i f)) := h.wk fun Dn σ H q => by
  obtain ⟨g, M0, H0, ρ, b, R, ns, z, q⟩ := q
  obtain ⟨p, vs, a, c, h0, l, r⟩ := R.own i _ z
  obtain rfl := rpW_ints r
  refine ⟨.ref p, a, .inl ⟨rfl, _, SqL.of c⟩, g, M0, H0, ρ, b, R, f.m (fun es b1 ⟨k, j, e, hj, hm, q⟩ us H1 k1 i1 r1 => ?_) q⟩
  subst e
  match us, r1 with
  | [u], .cons r1 .nil =>
    cases r1
    have c1 := k1 _ _ (fun o => R.dom0 p (R.pl p o) h0) c
    refine ⟨p, ns, k, j, rfl, rfl, c1, hj, hm, ?_⟩
    obtain ⟨R1, S1⟩ := (R.up k1 i1).ownSet z a c1 (vs' := (ns.eraseIdx j).map V.int) (by
      rw [List.length_map] at l ⊢
      exact Nat.le_trans (List.length_eraseIdx_le ..) l) (intsW_rp _)
    exact q _ _ R1 ((R.stp k1).trans S1)
/-! ### xs.index(z) of a list -/
def idxLD : D → D → Option D
  | .list ds, d => if (okD (.list ds) && okD d) = true then (ds.findIdx? fun z => PyData.eqv z d).map fun j => .int (j : Nat) else none
  | _, _ => none
theorem dE_idxL {ob e : Expr} {apos cpos : Pos} {f1 f2 : EF} {μ : Bool} (hu : X.A.units + 65 < cLine) (ho : PE X ob (tD μ f1)) (ha : PE X e (tD μ f2))
    (hbase : attributeBase ob "index" X.env (eval ob X.env) = eval ob X.env := by rfl)
    (hfew : ((backTo cpos (starEach [e] X.env)).all (fun x => !x.1) && (backToKw cpos (keywordEach [] X.env)).all (fun x => x.1.isSome) && decide (([e] : List Expr).length + ([] : List Keyword).length + (if ([] : List Keyword).isEmpty then 0 else 1) < 30)) = true := by rfl)
    (hline : (apos.endLine == cpos.line) = true := by rfl) (hs : starEach [e] X.env = (false, eval e X.env) :: starEach [] X.env := by rfl) (hplain : (backTo cpos (starEach [] X.env)).any (·.1) = false := by rfl) :
    PE X (.Call (.Attribute ob "index" apos) [e] [] cpos) (tD μ (e2 idxLD f1 f2)) := (pe_bm PySem.F.plainAttrs_list PySem.F.slot_list_index PySem.F.type_list_index (mt_indexD hu) ho (dA_cons ha dA_nil hs) hbase hfew hline hs hplain).wk fun σ H Q q => by
  obtain ⟨M0, H0, ρ, d, R, e, q⟩ := q
  obtain ⟨a, ea, e⟩ := some_bind e
  obtain ⟨b, eb, e⟩ := some_bind e
  refine ⟨M0, H0, ρ, a, R, ea, fun x H1 s1 r1 => ?_⟩
  cases r1 with
  | @lst ad xs ds t n l r =>
    have e : (if (okD (.list ds) && okD b) = true then (ds.findIdx? fun z => PyData.eqv z b).map fun j => PyData.int (j : Nat) else none) = some d := e
    by_cases hk : (okD (.list ds) && okD b) = true
    rotate_left
    · rw [if_neg hk] at e
      cases e
    rw [if_pos hk] at e
    have hk := Bool.and_eq_true_iff.mp hk
    obtain ⟨j, hj, ej⟩ := some_map e
    subst ej
    obtain ⟨hl, h1, h2⟩ := List.findIdx?_eq_some_iff_getElem.mp hj
    refine ⟨.inl ⟨rfl, _, SqL.of t⟩, ⟨M0, H0, ρ, [b], R.mono s1, by show (f2 ρ).bind _ = _; rw [eb]; rfl, fun us H2 s2 r2 => ?_⟩⟩
    match us, r2 with
    | [u], .cons r2 .nil =>
      have dl := Rp.dp (K := X.K) ((Rp.lst t n l r).mono (.of s2)) (okD.parts hk.1).1
      have db := Rp.dp (K := X.K) r2 (okD.parts hk.2).1
      exact ⟨ad, u, b, ds, j, ds[j], rfl, rfl, dl, db, (okD.parts hk.1).2, (okD.parts hk.2).2, List.getElem?_eq_getElem hl, h1, fun m z' hm hz => by
        obtain ⟨hm2, rfl⟩ := List.getElem?_eq_some_iff.mp hz
        simpa using h2 m hm, q _ _ (s1.trans s2) (.int _)⟩
  | non => cases e
  | bl b => cases e
  | int i => cases e
  | str x hx => cases e
  | tup t n l r => cases e
  | dic t n h => cases e
  | dct t n h => cases e
/-! ### list(t) as a list of one's own -/
def lisX : D → Option D
  | .list ds => some (.list ds)
  | .tuple ds => some (.list ds)
  | _ => none
theorem oE_listC {e : Expr} {p pos : Pos} {f : EF} (hg : Gl X "list") (hm : X.mg "list" = none) (hv : bootBuiltins "list" = some (.type "list")) (h : PE X e (tD true f))
    (he : starEach (e :: []) X.env = (false, eval e X.env) :: starEach [] X.env := by rfl) (hpl : (backTo pos (starEach [] X.env)).any (·.1) = false := by rfl) :
    PE X (.Call (.Name "list" p) [e] [] pos) (tN (e1 lisX f)) := (pe_callTy call_list_of hg hm hv (dA_cons h dA_nil he) (by decide) (by decide) he hpl).wk fun σ H Q q => by
  obtain ⟨M0, H0, ρ, ds, R, e, q⟩ := q
  obtain ⟨a, ea, e⟩ := some_bind e
  refine ⟨M0, H0, ρ, [a], R, by show (f ρ).bind _ = _; rw [ea]; rfl, fun us H1 s1 r1 => ?_⟩
  match us, r1 with
  | [u], .cons r1 .nil =>
    have np0 : ∀ {q' : Addr}, H1 q' = none → H q' = none := fun {q'} np => by
      cases z : H q' with
      | none => rfl
      | some o => rw [s1 _ _ z] at np; cases np
    cases r1 with
    | tup t n l r =>
      cases e
      exact ⟨_, _, rfl, .inr t.sq, fun q' np => q q' _ _ (np0 np) (s1.trans (smN np)) upd_same l ((r.reM fun a m => by
        rcases m with m | rfl
        · exact .inl m
        · exact .inr np).mono (.of (smN np)))⟩
    | lst t n l r =>
      cases e
      exact ⟨_, _, rfl, .inl (SqL.of t), fun q' np => q q' _ _ (np0 np) (s1.trans (smN np)) upd_same l ((r.reM fun a m => by
        rcases m with m | rfl
        · exact .inl m
        · exact .inr np).mono (.of (smN np)))⟩
    | non => cases e
    | bl b => cases e
    | int i => cases e
    | str x hx => cases e
    | dic t n h => cases e
    | dct t n h => cases e
/-! ### list(range(n)) as a list of one's own -/
def eLstRg1 (f : EF) : EF := fun ρ => (f ρ).bind fun d => match d with
  | .int n => if -(2 ^ 62) ≤ n ∧ n < 2 ^ 20 then some (.list (rgD 0 n.toNat)) else none
  | _ => none
theorem oE_lstRg1 {e : Expr} {p pos p2 pos2 : Pos} {f : EF} (hc : X.calm = true) (hg : Gl X "list") (hm : X.mg "list" = none) (hg2 : Gl X "range") (hm2 : X.mg "range" = none) (h : PE X e (tD true f))
    (na : starEach [(Expr.Call (.Name "range" p2) [e] [] pos2)] X.env = (false, eval (Expr.Call (.Name "range" p2) [e] [] pos2) X.env) :: starEach [] X.env := by rfl) (nb : starEach [e] X.env = (false, eval e X.env) :: starEach [] X.env := by rfl) :
    PE X (.Call (.Name "list" p) [.Call (.Name "range" p2) [e] [] pos2] [] pos) (tN (eLstRg1 f)) := (pe_listRg hc hg hm (prg_1 hg2 hm2 h nb) na).wk fun σ H Q q => by
  obtain ⟨M0, H0, ρ, ds, R, e, q⟩ := q
  obtain ⟨a, ea, e⟩ := some_bind e
  refine ⟨M0, H0, ρ, a, R, ea, fun x H1 s1 r1 => ?_⟩
  cases a <;> try (cases e; done)
  rename_i n
  obtain ⟨l, e2⟩ := iteS e
  cases e2
  cases r1
  refine ⟨n, rfl, ⟨by decide, by decide, l.1, by omega, by omega⟩, fun q' np => q q' _ _ ?_ (s1.trans (smN np)) upd_same (by rw [rgV_length]; exact szR (by omega)) (rgV_rp n)⟩
  cases z : H q' with
  | none => rfl
  | some o => rw [s1 _ _ z] at np; cases np
end
end Dl
namespace Dl
open PySem PySem.Spec PyProof.Rows L2 Rt
def chS (c : Nat) : Str := ⟨#[c]⟩
def chV (c : Nat) : V := .str (chS c)
def chD (c : Nat) : D := .str (chS c)
theorem chs_rp {M : Addr → Prop} {H : Hp} : ∀ cs : List Nat, RpAll M H (cs.map chV) (cs.map chD)
  | [] => .nil
  | c :: cs => .cons (.str _ (by show 1 ≤ sizeLine; decide)) (chs_rp cs)
theorem chs_eq {M : Addr → Prop} {H : Hp} : ∀ {cs : List Nat} {vs : List V}, RpAll M H vs (cs.map chD) → vs = cs.map chV
  | [], _, .nil => rfl
  | c :: cs, _, .cons (.str _ _) t => by rw [chs_eq t]; rfl
section
variable {X : Cx} {K : PySem.W.Frag}
/-! ### list(text) -/
theorem call_list_sgn (hc : X.calm = true) : CallR X (.type "list") (fun xs H Q => ∃ z : Str, xs = [.str z] ∧ z.length ≤ sizeLine ∧ ∀ l, H l = none → Q (.ref l) (upd H l (.lst (z.cps.toList.map chV)))) := by
  intro pins s σ H xs us Q I r h
  obtain ⟨z, rfl, hz, q⟩ := h
  cases r with
  | cons r1 rr =>
    cases rr
    obtain ⟨t, rfl⟩ := r1
    refine PySem.call_list_str (I.ok.hd hc) z t (fun h' tk acc c kp e its => ?_) hz
    have hv : Vals (z.cps.toList.map chV) acc.toList := by
      obtain ⟨l, g⟩ := its
      refine vals_of_at (by rw [List.length_map, Array.length_toList, Array.length_toList, l]) fun i x u hx hu => ?_
      rw [List.getElem?_map] at hx
      rw [Array.getElem?_toList] at hu
      obtain ⟨c, t, hc, rfl⟩ := g i u hu
      rw [← Array.getElem?_toList] at hc
      rw [hc] at hx
      cases hx
      exact ⟨t, rfl⟩
    exact ⟨.ref s.heap.objs.size, _, I.laid (t' := tk) kp (Nat.le_refl _) (show ObjOk X.prog X.w _ h' _ (.lst (z.cps.toList.map chV)) from ⟨by rw [List.length_map, Array.length_toList]; exact hz, acc.toList, c, hv, by simpa using e⟩), rfl, q _ (I.hok.fresh (Nat.le_refl _))⟩
def lisS : D → Option D
  | .str z => some (.list (z.cps.toList.map chD))
  | _ => none
theorem oE_listS {e : Expr} {p pos : Pos} {f : EF} (hc : X.calm = true) (hg : Gl X "list") (hm : X.mg "list" = none) (hv : bootBuiltins "list" = some (.type "list")) (h : PE X e (tD true f))
    (he : starEach (e :: []) X.env = (false, eval e X.env) :: starEach [] X.env := by rfl) (hpl : (backTo pos (starEach [] X.env)).any (·.1) = false := by rfl) :
    PE X (.Call (.Name "list" p) [e] [] pos) (tN (e1 lisS f)) := (pe_callTy (call_list_sgn hc) hg hm hv (dA_cons h dA_nil he) (by decide) (by decide) he hpl).wk fun σ H Q q => by
  obtain ⟨M0, H0, ρ, ds, R, e, q⟩ := q
  obtain ⟨a, ea, e⟩ := some_bind e
  refine ⟨M0, H0, ρ, [a], R, by show (f ρ).bind _ = _; rw [ea]; rfl, fun us H1 s1 r1 => ?_⟩
  match us, r1 with
  | [u], .cons r1 .nil =>
    cases r1 <;> try (cases e; done)
    rename_i z hz
    cases e
    refine ⟨z, rfl, hz, fun l np => q l _ _ ?_ (s1.trans (smN np)) upd_same (by rw [List.length_map, Array.length_toList]; exact hz) (chs_rp _)⟩
    cases w : H l with
    | none => rfl
    | some o => rw [s1 _ _ w] at np; cases np
/-! ### a list of one's own, only read for once -/
def wLend (i : Nat) (f : WP D) : WP D := ⟨fun ρ b Q => ∃ ds, ρ[i]? = some (some (.own ds)) ∧ f.w (ρ.set i (some (.dat (.list ds)))) b fun d b' => (∃ z : Str, d = .str z) ∧ Q d b', fun h ⟨ds, e, z⟩ => ⟨ds, e, f.m (fun d b' y => ⟨y.1, h _ _ y.2⟩) z⟩⟩
theorem nE_lend {e : Expr} {i : Nat} {f : WP D} (h : PE X e (tn f)) : PE X e (tn (wLend i f)) := h.wk fun σ H Q q => by
  obtain ⟨g, M0, H0, ρ, b, R, ds, e, q⟩ := q
  refine ⟨g, M0, H0, _, b, R.frz e, f.m (fun d b' ⟨⟨z, ez⟩, q⟩ v H1 k1 i1 r1 => ?_) q⟩
  subst ez
  cases r1
  rename_i hz
  exact q _ H1 k1 i1 (.str z hz)
/-! ### names: a letter of one's own list each, taken away, put into the stem -/
def nmS (z : Str) (k : Int) (c : Nat) : Str := cutS z none (some k) ++ chS c ++ cutS z (some k) none
/-- a step's slots as data: the list of letters is only looked at -/
def rhoP (m : Int) (cs : List Nat) (z : Str) (k : Int) : Rho := [some .pool, some (.dat (.int m)), some (.dat (.list (cs.map chD))), some (.dat (.str z)), some (.dat (.int k)), none]
def swNm (fA fB : EF) (fI : WP (List D)) : WP Out := ⟨fun ρ b Q => ∃ (m : Int) (cs : List Nat) (z : Str) (k : Int), ρ = [some .pool, some (.dat (.int m)), some (.own (cs.map chD)), some (.dat (.str z)), some (.dat (.int k)), none] ∧ z.length ≤ 100 ∧ 0 ≤ m ∧ m ≤ cs.length ∧ m ≤ 50 ∧ cs.length ≤ 100 ∧ m.toNat ≤ b ∧
  (∀ cs', fA (shutR true (rhoP m cs' z k)) = some (.str (cutS z none (some k))) ∧ fB (shutR true (rhoP m cs' z k)) = some (.str (cutS z (some k) none)) ∧ ∀ b Q, 0 < cs'.length → cs'.length ≤ 100 → 1 ≤ b → (∀ (v : Int) (n' : Nat), 0 ≤ v → v < cs'.length → b ≤ n' + 1 → Q [.int v] n') → fI.w (rhoP m cs' z k) b Q) ∧
  ∀ (ds rest : List Nat) (ys : List Str) b', ds.length = m.toNat → (ds ++ rest).Perm cs → b ≤ b' + m.toNat → ys.Perm (ds.map (nmS z k)) → sortedS ys = true → Q (.rt (.tuple (ys.map .str))) b', fun h ⟨m, cs, z, k, a1, a2, a3, a4, a5, a6, a7, a8, a9⟩ => ⟨m, cs, z, k, a1, a2, a3, a4, a5, a6, a7, a8, fun ds rest ys b' h1 h2 h3 h4 h5 => h _ _ (a9 ds rest ys b' h1 h2 h3 h4 h5)⟩⟩
theorem dom_up {g : Pl} {M0 : Addr → Prop} {H H' : Hp} {b' : Nat} (d : Dom M0 H) (k : KpM g.own H H') (iv : g.inv b' H') : Dom M0 H' := fun p m e => by
  by_cases o : g.own p
  · exact g.alive iv o e
  · cases z : H p with
    | none => exact d p m z
    | some u => rw [k p u o z] at e; cases e
theorem dom_put {M0 : Addr → Prop} {H : Hp} {a : Addr} {o : HO} (d : Dom M0 H) : Dom M0 (upd H a o) := fun p m e => by
  by_cases z : p = a
  · subst z
    rw [upd_same] at e
    cases e
  · rw [upd_ne z] at e
    exact d p m e
/-- inside a turn -/
theorem rn_in {g : Pl} {H : Hp} {b : Nat} {σ : L2.St} {m k : Int} {cs : List Nat} {z : Str} {p : Addr} (iv : g.inv b H) (hl : σ.length = 6) (e0 : σ[0]? = some (some g.h)) (e1 : σ[1]? = some (some (.int m))) (e2 : σ[2]? = some (some (.ref p))) (e3 : σ[3]? = some (some (.str z))) (e4 : σ[4]? = some (some (.int k)))
    (hp : H p = some (.lst (cs.map chV))) (np : ¬ g.own p) (hz : z.length ≤ 100) (hc : cs.length ≤ 100) : Rn g g.own H H σ (rhoP m cs z k) b := by
  have dm : Dom g.own H := fun q o e => g.alive iv o e
  have no : ∀ a, Mu true g.own σ (rhoP m cs z k) a → g.own a := fun a h => by
    rcases h with h | ⟨_, i, ds, e, _⟩
    · exact h
    · match i, e with
      | 0, e => cases e
      | 1, e => cases e
      | 2, e => cases e
      | 3, e => cases e
      | 4, e => cases e
      | 5, e => cases e
      | n + 6, e => cases e
  refine ⟨.refl, dm, dm, fun _ o => o, iv, hl.symm, fun i d e => ?_, fun i ds e => ?_, fun i v e => ?_, fun i e => ?_, fun i j a b q e => ?_⟩
  · match i, e with
    | 0, e => cases e
    | 1, e => cases e; exact ⟨_, e1, .int _⟩
    | 2, e => cases e; exact ⟨_, e2, .lst hp (fun m => np (no _ m)) (by rw [List.length_map]; exact sz (by omega)) (chs_rp _)⟩
    | 3, e => cases e; exact ⟨_, e3, .str _ (sz (by omega))⟩
    | 4, e => cases e; exact ⟨_, e4, .int _⟩
    | 5, e => cases e
    | n + 6, e => cases e
  · match i, e with
    | 0, e => cases e
    | 1, e => cases e
    | 2, e => cases e
    | 3, e => cases e
    | 4, e => cases e
    | 5, e => cases e
    | n + 6, e => cases e
  · match i, e with
    | 0, e => cases e
    | 1, e => cases e
    | 2, e => cases e
    | 3, e => cases e
    | 4, e => cases e
    | 5, e => cases e
    | n + 6, e => cases e
  · match i, e with
    | 0, e => exact e0
    | 1, e => cases e
    | 2, e => cases e
    | 3, e => cases e
    | 4, e => cases e
    | 5, e => cases e
    | n + 6, e => cases e
  · match i, e with
    | 0, e => cases e
    | 1, e => cases e
    | 2, e => cases e
    | 3, e => cases e
    | 4, e => cases e
    | 5, e => cases e
    | n + 6, e => cases e
theorem six {σ : L2.St} {i : Nat} {u : Option V} (h : i ≠ 5) : (σ.set 5 u)[i]? = σ[i]? := by rw [List.getElem?_set_ne (fun e => h e.symm)]
theorem add_s {a b : Str} (h : a.length + b.length ≤ 1000) : addX (.str a) (.str b) = some (.str (a ++ b)) := if_pos (Nat.le_trans h (by decide))
theorem rd_add {x y : V} {a b : Str} {H : Hp} {Q : VK} (ex : x = .str a) (ey : y = .str b) (h : a.length + b.length ≤ 1000) (q : ∀ H', Same H H' → Q (.str (a ++ b)) H') : rD addX x y H Q := by
  subst ex
  subst ey
  refine ⟨fun _ => False, .str a, .str b, _, fun _ m => m.elim, .str _ (sz (by omega)), .str _ (sz (by omega)), add_s h, fun v H' s r => ?_⟩
  cases r
  exact q H' s
theorem er_map {α β : Type} (f : α → β) : ∀ (xs : List α) (i : Nat), (xs.map f).eraseIdx i = (xs.eraseIdx i).map f
  | [], _ => rfl
  | _ :: _, 0 => rfl
  | x :: xs, i + 1 => congrArg (f x :: ·) (er_map f xs i)
theorem er_perm {α : Type} {c : α} : ∀ {xs : List α} {i : Nat}, xs[i]? = some c → ([c] ++ xs.eraseIdx i).Perm xs
  | [], _, e => nomatch e
  | x :: xs, 0, e => by cases e; exact .refl _
  | x :: xs, i + 1, e => (List.Perm.swap x c (xs.eraseIdx i)).trans ((er_perm (xs := xs) (i := i) e).cons x)
theorem nS_nm {st : Stmt} {fA fB : EF} {fI : WP (List D)} {it : WP (List D)} (hit : it = wP (itG ran1D (aCons (eVar 1) aNil)))
    (h : PS X st (tRet (tCB (rC tupD) (tCons (tCB (rSortedS X.K) (tCons (tLc (inn false it) (gP K (.nm 5)) (tnT wYes) (tOp (rD addX) (tOp (rD addX) (tn (wP fA)) (tBM K "list" rPopAt (tVar 2) (tnA fI))) (tn (wP fB))) [5]) tNil)) tNil)))) : PS X st (tSn (swNm fA fB fI)) := h.wk fun Dn σ H q => by
  obtain ⟨g, M0, H0, ρ, b, R, m, cs, z, k, rfl, hz, m0, mc, m50, c100, hb, hf, q⟩ := q
  subst hit
  obtain ⟨p, vs, ep, hp, np0, lv, rv⟩ := R.own 2 _ rfl
  have := chs_eq rv
  subst this
  have gp : ¬ g.own p := fun o => R.dom0 p (R.pl p o) np0
  have e0 := R.pool 0 rfl
  obtain ⟨_, e1, r⟩ := R.dat 1 _ rfl
  cases r
  obtain ⟨_, e3, r⟩ := R.dat 3 _ rfl
  cases r
  obtain ⟨_, e4, r⟩ := R.dat 4 _ rfl
  cases r
  have lσ : σ.length = 6 := R.len.symm
  refine ⟨g, M0, H0, _, b, R, rgD 0 m.toNat, ran1_ok (by omega) (by omega), fun J H1 k1 i1 dw D hD => ?_⟩
  have R1 := R.up k1 i1
  have hp1 := k1 p _ gp hp
  have gD : ¬ g.own D := fun o => g.alive i1 o hD
  have pD : p ≠ D := fun e => by rw [e] at hp1; rw [hp1] at hD; cases hD
  have mp : Mu true M0 σ [some .pool, some (.dat (.int m)), some (.own (cs.map chD)), some (.dat (.str z)), some (.dat (.int k)), none] p := .inr ⟨rfl, 2, _, rfl, ep⟩
  obtain ⟨⟨G, Y, W, hG, hY⟩, _⟩ := dw (Mi true M0 σ _ D) fun a m => m.elim .inl fun z => .inr (by rw [z]; exact hD)
  rw [show (rgD 0 m.toNat).length = m.toNat by unfold rgD; rw [List.length_map, List.length_range]] at W
  have l1 := cutS_length z none (some k)
  have l2 := cutS_length z (some k) none
  refine lc_it W (fun j H' => ∃ ds rest b', KpM (Mi true M0 σ [some .pool, some (.dat (.int m)), some (.own (cs.map chD)), some (.dat (.str z)), some (.dat (.int k)), none] D) H1 H' ∧ KpM g.own H0 H' ∧ Dom M0 H' ∧ g.inv b' H' ∧ H' p = some (.lst (rest.map chV)) ∧ H' D = some (.lst (ds.map fun c => V.str (nmS z k c))) ∧ ds.length = j ∧ (ds ++ rest).Perm cs ∧ b ≤ b' + j)
    ⟨[], cs, b, .of (smN hD), (R1.mono (smN hD)).kp, (R1.mono (smN hD)).dom, (R1.mono (smN hD)).iv, by rw [upd_ne pD]; exact hp1, upd_same, rfl, .refl _, Nat.le_refl _⟩ (fun j H' hj h => ?_) (fun j x H2 H3 hj h y => ?_) (fun H' h => ?_)
  · obtain ⟨ds, rest, b', a1, _⟩ := h
    exact hG H' a1
  · obtain ⟨ds, rest, b1, a1, a2, a3, a4, a5, a6, a7, a8, a9⟩ := h
    obtain ⟨_, _, s23, _⟩ := hY j x H2 H3 a1 y
    have lr : ds.length + rest.length = cs.length := by rw [← List.length_append]; exact a8.length_eq
    have rpos : 0 < rest.length := by omega
    have i3 : g.inv b1 H3 := Pl.same a4 s23
    have p3 := s23 _ _ a5
    have D3 := s23 _ _ a6
    let σ2 := (wipe σ [5]).set 5 (some x)
    have g2 : ∀ i, i ≠ 5 → σ2[i]? = σ[i]? := fun i hi => (six hi).trans (six hi)
    have ls2 : σ2.length = 6 := by show ((σ.set 5 none).set 5 (some x)).length = 6; rw [List.length_set, List.length_set]; exact lσ
    have IN : ∀ {H' : Hp} {b' : Nat} {cs' : List Nat}, g.inv b' H' → H' p = some (.lst (cs'.map chV)) → cs'.length ≤ 100 → Rn g g.own H' H' σ2 (rhoP m cs' z k) b' := fun iv hp' hc => rn_in iv ls2 ((g2 0 (by decide)).trans e0) ((g2 1 (by decide)).trans e1) ((g2 2 (by decide)).trans ep) ((g2 3 (by decide)).trans e3) ((g2 4 (by decide)).trans e4) hp' gp hz hc
    refine ⟨by show (((σ.set 5 none).set 5 (some x)).set 5 none) = σ.set 5 none; rw [List.set_set, List.set_set], g, g.own, H3, _, b1, IN i3 p3 (by omega), fun H4 k4 i4 => ?_⟩
    have p4 := k4 p _ gp p3
    show (if true = true then _ else _)
    rw [if_pos rfl]
    refine ⟨g, g.own, H4, _, b1, IN i4 p4 (by omega), _, (hf rest).1, fun vA H5 k5 i5 rA => ?_⟩
    cases rA
    have p5 := k5 p _ gp p4
    refine ⟨.ref p, (g2 2 (by decide)).trans ep, .inl ⟨rfl, _, SqL.of p5⟩, g, g.own, H5, _, b1, IN i5 p5 (by omega), (hf rest).2.2 b1 _ rpos (by omega) (by omega) fun v b2 v0 v1 hb2 vs H6 k6 i6 rI => ?_⟩
    have p6 := k6 p _ gp p5
    cases rI with
    | cons r1 rr =>
      cases rr
      cases r1
      obtain ⟨c, hc⟩ : ∃ c, rest[v.toNat]? = some c := ⟨_, List.getElem?_eq_getElem (by omega)⟩
      have lm : (rest.map chV).length = rest.length := List.length_map ..
      refine ⟨p, rest.map chV, v, v.toNat, chV c, rfl, rfl, p6, by omega, by omega, ?_, by rw [List.getElem?_map, hc]; rfl, ?_⟩
      · have ev : (if v < 0 then v + (((rest.map chV).length : Nat) : Int) else v) = v := if_neg (by omega)
        show (if (decide (0 ≤ (if v < 0 then v + (((rest.map chV).length : Nat) : Int) else v)) && decide ((if v < 0 then v + (((rest.map chV).length : Nat) : Int) else v) < (((rest.map chV).length : Nat) : Int))) = true then some (if v < 0 then v + (((rest.map chV).length : Nat) : Int) else v).toNat else none) = some v.toNat
        rw [ev, lm]
        exact if_pos (by simp; omega)
      · have i7 : g.inv b2 (upd H6 p (.lst ((rest.map chV).eraseIdx v.toNat))) := g.loc i6 fun q o => upd_ne fun z => gp (by rw [← z]; exact o)
        have em : (rest.map chV).eraseIdx v.toNat = (rest.eraseIdx v.toNat).map chV := (er_map ..)
        have p7 : (upd H6 p (.lst ((rest.map chV).eraseIdx v.toNat))) p = some (.lst ((rest.eraseIdx v.toNat).map chV)) := by rw [upd_same, em]
        have le := List.length_eraseIdx_le rest v.toNat
        refine rd_add (a := cutS z none (some k)) (b := chS c) rfl rfl (by show _ + 1 ≤ 1000; omega) fun H8 s8 => ?_
        have i8 := Pl.same i7 s8
        have p8 := s8 _ _ p7
        refine ⟨g, g.own, H8, _, b2, IN i8 p8 (by omega), _, (hf _).2.1, fun vB H9 k9 i9 rB => ?_⟩
        cases rB
        refine rd_add (a := cutS z none (some k) ++ chS c) (b := cutS z (some k) none) rfl rfl (by rw [Str.length_append]; show _ + 1 + _ ≤ 1000; omega) fun H10 s10 => ?_
        have p10 := s10 _ _ (k9 p _ gp p8)
        have i10 := Pl.same i9 s10
        have D10 : H10 D = some (.lst (ds.map fun c => V.str (nmS z k c))) := by
          refine s10 _ _ (k9 D _ gD (s8 _ _ ?_))
          rw [upd_ne (Ne.symm pD)]
          exact k6 D _ gD (k5 D _ gD (k4 D _ gD D3))
        refine ⟨_, D10, by rw [List.length_map]; exact Nat.lt_of_le_of_lt (show ds.length ≤ 100 by omega) (by decide), ds ++ [c], rest.eraseIdx v.toNat, b2, ?_, ?_, ?_, ?_, ?_, ?_, ?_, ?_, ?_⟩
        · intro q o n e
          have nq : q ≠ D := fun z => n (.inr z)
          have np : q ≠ p := fun z => n (.inl (by rw [z]; exact mp))
          have ng : ¬ g.own q := fun o => n (.inl (.inl (R.pl q o)))
          rw [upd_ne nq]
          refine s10 _ _ (k9 _ _ ng (s8 _ _ ?_))
          rw [upd_ne np]
          exact k6 _ _ ng (k5 _ _ ng (k4 _ _ ng (s23 _ _ (a1 q o n e))))
        · intro q o ng e
          have nq : q ≠ D := fun z => by
            have := R1.kp q o ng e
            rw [z, hD] at this
            cases this
          have np : q ≠ p := fun z => by rw [z, np0] at e; cases e
          rw [upd_ne nq]
          refine s10 _ _ (k9 _ _ ng (s8 _ _ ?_))
          rw [upd_ne np]
          exact k6 _ _ ng (k5 _ _ ng (k4 _ _ ng (s23 _ _ (a2 q o ng e))))
        · refine dom_put (dom_up ?_ (KpM.of s10) i10)
          refine dom_up (dom_up (dom_put (dom_up (dom_up (dom_up (dom_up a3 (.of s23) i3) k4 i4) k5 i5) k6 i6)) (.of s8) i8) k9 i9
        · exact g.loc i10 fun q o => upd_ne fun z => gD (by rw [← z]; exact o)
        · rw [upd_ne pD]
          exact p10
        · rw [upd_same, List.map_append]
          rfl
        · rw [List.length_append, a7]
          rfl
        · refine .trans ?_ a8
          rw [List.append_assoc]
          refine List.Perm.append_left ds ?_
          exact er_perm hc
        · omega
  · obtain ⟨ds, rest, b', a1, a2, a3, a4, a5, a6, a7, a8, a9⟩ := h
    refine ⟨D, ds.map (nmS z k), rfl, SqL.of (by rw [List.map_map]; exact a6), by rw [List.length_map]; omega, fun ys p' perm srt hp' => ?_⟩
    have yl : ∀ y ∈ ys, y.length ≤ sizeLine := fun y hy => by
      obtain ⟨c, _, rfl⟩ := List.mem_map.mp (perm.mem_iff.mp hy)
      unfold nmS
      rw [Str.length_append, Str.length_append]
      exact sz (by show _ + 1 + _ ≤ 100000; omega)
    have ll : ys.length ≤ sizeLine := sz (by rw [perm.length_eq, List.length_map]; omega)
    refine ⟨M0, [.list (ys.map .str)], .tuple (ys.map .str), dom_put a3, .cons (.lst upd_same (a3.not hp') (by rw [List.length_map]; exact ll) (RpAll.strM yl)) .nil, rfl, fun v H'' s r => ?_⟩
    exact q ds rest ys b' a7 a8 (by omega) perm srt v H'' (fun q o n e => s _ _ (smN hp' _ _ (a2 q o n e))) (Pl.same (Pl.same a4 (smN hp')) s) r
end
end Dl
namespace Dx
open PySem PySem.Spec PyProof.Rows L2 Rt Dl

theorem isi_int (d : D) : isTy "int" d = some (.bool (match d with | .int _ => true | .bool _ => true | _ => false)) := by
  cases d <;> (unfold isTy tyN; first | rw [show kitB "NoneType" "int" = some false by decide +kernel] | rw [show kitB "bool" "int" = some true by decide +kernel] | rw [show kitB "int" "int" = some true by decide +kernel] | rw [show kitB "str" "int" = some false by decide +kernel] | rw [show kitB "list" "int" = some false by decide +kernel] | rw [show kitB "tuple" "int" = some false by decide +kernel] | rw [show kitB "dict" "int" = some false by decide +kernel]) <;> rfl
theorem isi_bool (d : D) : isTy "bool" d = some (.bool (match d with | .bool _ => true | _ => false)) := by
  cases d <;> (unfold isTy tyN; first | rw [show kitB "NoneType" "bool" = some false by decide +kernel] | rw [show kitB "bool" "bool" = some true by decide +kernel] | rw [show kitB "int" "bool" = some false by decide +kernel] | rw [show kitB "str" "bool" = some false by decide +kernel] | rw [show kitB "list" "bool" = some false by decide +kernel] | rw [show kitB "tuple" "bool" = some false by decide +kernel] | rw [show kitB "dict" "bool" = some false by decide +kernel]) <;> rfl
theorem isi_tuple (d : D) : isTy "tuple" d = some (.bool (match d with | .tuple _ => true | _ => false)) := by
  cases d <;> (unfold isTy tyN; first | rw [show kitB "NoneType" "tuple" = some false by decide +kernel] | rw [show kitB "bool" "tuple" = some false by decide +kernel] | rw [show kitB "int" "tuple" = some false by decide +kernel] | rw [show kitB "str" "tuple" = some false by decide +kernel] | rw [show kitB "list" "tuple" = some false by decide +kernel] | rw [show kitB "tuple" "tuple" = some true by decide +kernel] | rw [show kitB "dict" "tuple" = some false by decide +kernel]) <;> rfl
theorem isi_str (d : D) : isTy "str" d = some (.bool (match d with | .str _ => true | _ => false)) := by
  cases d <;> (unfold isTy tyN; first | rw [show kitB "NoneType" "str" = some false by decide +kernel] | rw [show kitB "bool" "str" = some false by decide +kernel] | rw [show kitB "int" "str" = some false by decide +kernel] | rw [show kitB "str" "str" = some true by decide +kernel] | rw [show kitB "list" "str" = some false by decide +kernel] | rw [show kitB "tuple" "str" = some false by decide +kernel] | rw [show kitB "dict" "str" = some false by decide +kernel]) <;> rfl
/-! ### what the values are -/
def isNum : D → Bool
  | .int _ => true
  | _ => false
def isFrom (lo hi : Int) : D → Bool
  | .int i => decide (lo ≤ i) && decide (i ≤ hi)
  | _ => false
def isRow (lo hi : Int) : D → Bool
  | .tuple ds => decide (lo ≤ ds.length) && decide ((ds.length : Int) ≤ hi)
  | _ => false
def sNum : List D → Option D
  | [d] => some (.bool (isNum d))
  | _ => none
def sFrom : List D → Option D
  | [d, .int lo, .int hi] => some (.bool (isFrom lo hi d))
  | _ => none
def sRow : List D → Option D
  | [d, .int lo, .int hi] => some (.bool (isRow lo hi d))
  | _ => none
section
variable {P : Program} {w : World} {K : PySem.W.Frag} {mg : Str → Option Value} {base : Heap}
theorem ok_num {f : Addr} {fd : FuncData} (F : Fun K "is_number" "is_number" s_is_number f fd) (m_isinstance : mg "isinstance" = none) (m_int : mg "int" = none) (m_bool : mg "bool" = none) : FnOk P w K mg base CX0 1 f fd ["thing"] (spD 1 sNum) := by
  refine okFn F sc_is_number rfl fun cdv A outer s H E hr => ⟨_, (dSs_one (dS_ret (ps_ret (dE_and (dE_isi (dE_var (μ := true) (pv 0)) (pe_bltn (v := .ty "int") (by rfl) m_int (by decide +kernel) rfl) (by rfl) m_isinstance (by decide +kernel)) (dE_one (dE_not (dE_isi (dE_var (μ := true) (pv 0)) (pe_bltn (v := .ty "bool") (by rfl) m_bool (by decide +kernel) rfl) (by rfl) m_isinstance (by decide +kernel)))))))), fun ds d l e => ?_⟩
  match ds, e with
  | [x], e =>
    cases e
    refine ⟨.rt (.bool (isNum x)), ?_, rfl⟩
    simp only [startR, sRet, eAnd, eNot, e1, eVar, isi_int, isi_bool]
    cases x <;> rfl
theorem ok_from {f : Addr} {fd : FuncData} (F : Fun K "is_number_from" "is_number_from" s_is_number_from f fd) (C_is_number : Cl P w K mg base 1 "is_number" ["thing"] (spD 1 sNum)) : FnOk P w K mg base CX0 2 f fd ["thing", "low", "high"] (spD 3 sFrom) := by
  refine okFn F sc_is_number_from rfl fun cdv A outer s H E hr => ⟨_, (dSs_one (dS_ret (ps_ret (dE_and (dE_cl C_is_number (hr.mono (by omega)) (by rfl) (dA_cons (dE_var (μ := true) (pv 0)) (dA_nil (μ := true)))) (dE_one (dE_chain o_le o_le (dE_var (μ := true) (pv 1)) (dE_var (μ := true) (pv 0)) (dE_var (μ := true) (pv 2)))))))), fun ds d l e => ?_⟩
  match ds, e with
  | [x, .int lo, .int hi], e =>
    cases e
    refine ⟨.rt (.bool (isFrom lo hi x)), ?_, rfl⟩
    cases x <;> try rfl
    rename_i i
    by_cases h : lo ≤ i <;> simp [startR, sRet, eAnd, eCall, gN, aCons, aNil, sNum, eVar, eChain, isNum, isFrom, leD, bB, h]
theorem ok_row {f : Addr} {fd : FuncData} (F : Fun K "is_row" "is_row" s_is_row f fd) (m_isinstance : mg "isinstance" = none) (m_tuple : mg "tuple" = none) (m_len : mg "len" = none) : FnOk P w K mg base CX0 1 f fd ["thing", "fewest", "most"] (spD 3 sRow) := by
  refine okFn F sc_is_row rfl fun cdv A outer s H E hr => ⟨_, (dSs_one (dS_ret (ps_ret (dE_and (dE_isi (dE_var (μ := true) (pv 0)) (pe_bltn (v := .ty "tuple") (by rfl) m_tuple (by decide +kernel) rfl) (by rfl) m_isinstance (by decide +kernel)) (dE_one (dE_chain o_le o_le (dE_var (μ := true) (pv 1)) (dE_callB c_len (by rfl) m_len (by decide +kernel) (dA_cons (dE_var (μ := true) (pv 0)) (dA_nil (μ := true)))) (dE_var (μ := true) (pv 2)))))))), fun ds d l e => ?_⟩
  match ds, e with
  | [x, .int lo, .int hi], e =>
    cases e
    refine ⟨.rt (.bool (isRow lo hi x)), ?_, rfl⟩
    simp only [startR, sRet, eAnd, e1, eVar, isi_tuple]
    cases x <;> try rfl
    rename_i xs
    by_cases h : lo ≤ xs.length <;> simp [isi_tuple, eChain, eCall, aCons, aNil, lenD, eVar, isRow, leD, bB, h]
end
end Dx
namespace Dx
open PySem PySem.Spec PyProof.Rows L2 Rt Dl
def S (x : String) : D := .str (Str.ofString x)
/-- a fault: its path and its word -/
def flt (path : List Int) (word : String) : D := .tuple [.tuple (path.map .int), S word]
def kindIn (ks : List D) (a : D) : Bool := ks.any fun z => PyData.eqv z a
def srcF (n : Int) (ks : List D) : D → D
  | .tuple [a, b, c, e, f] => if kindIn ks a = false then flt [0] "kind" else if isFrom 0 20 b = false then flt [1] "age" else if isFrom 0 (n - 1) c = false then flt [2] "place" else if isFrom 0 1000000 e = false then flt [3] "since" else if isFrom 1 9 f = false then flt [4] "many" else .none
  | _ => flt [] "source"
def sSrc : List D → Option D
  | [.int n, .tuple ks, d] => if (okD (.tuple ks) && okD d) = true then some (srcF n ks d) else none
  | _ => none
theorem isRow_five {d : D} (h : isRow 5 5 d = true) : ∃ a b c e f, d = .tuple [a, b, c, e, f] := by
  cases d <;> try (cases h; done)
  rename_i ds
  have : ds.length = 5 := by
    simp [isRow] at h
    omega
  match ds, this with
  | [a, b, c, e, f], _ => exact ⟨a, b, c, e, f, rfl⟩
section
variable {P : Program} {w : World} {K : PySem.W.Frag} {mg : Str → Option Value} {base : Heap}
theorem ok_src {f : Addr} {fd : FuncData} {t1 t2 t3 : Tok} (F : Fun K "source_fault" "source_fault" s_source_fault f fd) (g_OLD : mg "OLD" = some (.int 20 t1)) (g_SINCE : mg "SINCE" = some (.int 1000000 t2)) (g_MANY : mg "MANY" = some (.int 9 t3))
    (C_is_row : Cl P w K mg base 1 "is_row" ["thing", "fewest", "most"] (spD 3 sRow)) (C_is_number_from : Cl P w K mg base 2 "is_number_from" ["thing", "low", "high"] (spD 3 sFrom)) : FnOk P w K mg base CX0 3 f fd ["span", "kinds", "source"] (spD 3 sSrc) := by
  refine okFn F sc_source_fault rfl fun cdv A outer s H E hr => ⟨_, (dSs_cons (dS_if (dT_not (dT_val (dE_cl C_is_row (hr.mono (by omega)) (by rfl) (dA_cons (dE_var (μ := true) (pv 2)) (dA_cons (dE_c (μ := true) pe_int) (dA_cons (dE_c (μ := true) pe_int) (dA_nil (μ := true))))))))
    (dSs_one (dS_ret (ps_ret (dE_tup (dA_cons (dE_tup (dA_nil (μ := true))) (dA_cons (dE_c (μ := true) pe_str) (dA_nil (μ := true))))))))
    dSs_nil)
  (dSs_cons (dS_asg (K := K) (p := (.tp (.cons (.nm 3) (.cons (.nm 4) (.cons (.nm 5) (.cons (.nm 6) (.cons (.nm 7) .nil))))))) (ps_asg (dE_var (μ := true) (pv 2)) (pg_tup (by rfl) (pgs_cons (pg_name (i := 3) sc_source_fault.nd rfl (.inl rfl)) (pgs_cons (pg_name (i := 4) sc_source_fault.nd rfl (.inl rfl)) (pgs_cons (pg_name (i := 5) sc_source_fault.nd rfl (.inl rfl)) (pgs_cons (pg_name (i := 6) sc_source_fault.nd rfl (.inl rfl)) (pgs_cons (pg_name (i := 7) sc_source_fault.nd rfl (.inl rfl)) pgs_nil))))))))
  (dSs_cons (dS_if (dT_cmp (o_nin (u65 hr)) (dE_var (μ := true) (pv 3)) (dE_var (μ := true) (pv 1)) (by rfl))
    (dSs_one (dS_ret (ps_ret (dE_tup (dA_cons (dE_tup (dA_cons (dE_c (μ := true) pe_int) (dA_nil (μ := true)))) (dA_cons (dE_c (μ := true) pe_str) (dA_nil (μ := true))))))))
    dSs_nil)
  (dSs_cons (dS_if (dT_not (dT_val (dE_cl C_is_number_from (hr.mono (by omega)) (by rfl) (dA_cons (dE_var (μ := true) (pv 4)) (dA_cons (dE_c (μ := true) pe_int) (dA_cons (dE_c (μ := true) (pe_glob (v := .int 20) (by rfl) g_OLD ⟨_, rfl⟩)) (dA_nil (μ := true))))))))
    (dSs_one (dS_ret (ps_ret (dE_tup (dA_cons (dE_tup (dA_cons (dE_c (μ := true) pe_int) (dA_nil (μ := true)))) (dA_cons (dE_c (μ := true) pe_str) (dA_nil (μ := true))))))))
    dSs_nil)
  (dSs_cons (dS_if (dT_not (dT_val (dE_cl C_is_number_from (hr.mono (by omega)) (by rfl) (dA_cons (dE_var (μ := true) (pv 5)) (dA_cons (dE_c (μ := true) pe_int) (dA_cons (dE_op o_sub (dE_var (μ := true) (pv 0)) (dE_c (μ := true) pe_int)) (dA_nil (μ := true))))))))
    (dSs_one (dS_ret (ps_ret (dE_tup (dA_cons (dE_tup (dA_cons (dE_c (μ := true) pe_int) (dA_nil (μ := true)))) (dA_cons (dE_c (μ := true) pe_str) (dA_nil (μ := true))))))))
    dSs_nil)
  (dSs_cons (dS_if (dT_not (dT_val (dE_cl C_is_number_from (hr.mono (by omega)) (by rfl) (dA_cons (dE_var (μ := true) (pv 6)) (dA_cons (dE_c (μ := true) pe_int) (dA_cons (dE_c (μ := true) (pe_glob (v := .int 1000000) (by rfl) g_SINCE ⟨_, rfl⟩)) (dA_nil (μ := true))))))))
    (dSs_one (dS_ret (ps_ret (dE_tup (dA_cons (dE_tup (dA_cons (dE_c (μ := true) pe_int) (dA_nil (μ := true)))) (dA_cons (dE_c (μ := true) pe_str) (dA_nil (μ := true))))))))
    dSs_nil)
  (dSs_cons (dS_if (dT_not (dT_val (dE_cl C_is_number_from (hr.mono (by omega)) (by rfl) (dA_cons (dE_var (μ := true) (pv 7)) (dA_cons (dE_c (μ := true) pe_int) (dA_cons (dE_c (μ := true) (pe_glob (v := .int 9) (by rfl) g_MANY ⟨_, rfl⟩)) (dA_nil (μ := true))))))))
    (dSs_one (dS_ret (ps_ret (dE_tup (dA_cons (dE_tup (dA_cons (dE_c (μ := true) pe_int) (dA_nil (μ := true)))) (dA_cons (dE_c (μ := true) pe_str) (dA_nil (μ := true))))))))
    dSs_nil)
  (dSs_one (dS_ret (ps_ret (dE_c (μ := true) pe_non))))))))))), fun ds d l e => ?_⟩
  match ds, e with
  | [.int n, .tuple ks, x], e =>
    obtain ⟨ok, rfl⟩ := iteS e
    have ok := Bool.and_eq_true_iff.mp ok
    refine ⟨.rt (srcF n ks x), ?_, rfl⟩
    refine (ev_guard (b := !isRow 5 5 x) rfl rfl).trans ?_
    cases h0 : isRow 5 5 x with
    | false =>
      have : srcF n ks x = flt [] "source" := by
        unfold srcF
        split
        · cases h0
        · rfl
      rw [this]
      rfl
    | true =>
      obtain ⟨a, b, c, e', f', rfl⟩ := isRow_five h0
      have oa := okD.tup ok.2 a (by simp)
      refine (ev_asg rfl rfl).trans ?_
      refine (ev_guard (b := !kindIn ks a) (by show ((ninD a (.tuple ks)).bind bB) = _; rw [nin_tup oa ok.1]; rfl) rfl).trans ?_
      cases h1 : kindIn ks a with
      | false => simp only [srcF, h1]; rfl
      | true =>
        refine (ev_guard (b := !isFrom 0 20 b) rfl rfl).trans ?_
        cases h2 : isFrom 0 20 b with
        | false => simp only [srcF, h1, h2]; rfl
        | true =>
          refine (ev_guard (b := !isFrom 0 (n - 1) c) rfl rfl).trans ?_
          cases h3 : isFrom 0 (n - 1) c with
          | false => simp only [srcF, h1, h2, h3]; rfl
          | true =>
            refine (ev_guard (b := !isFrom 0 1000000 e') rfl rfl).trans ?_
            cases h4 : isFrom 0 1000000 e' with
            | false => simp only [srcF, h1, h2, h3, h4]; rfl
            | true =>
              refine (ev_guard (b := !isFrom 1 9 f') rfl rfl).trans ?_
              cases h5 : isFrom 1 9 f' with
              | false => simp only [srcF, h1, h2, h3, h4, h5]; rfl
              | true => simp only [srcF, h1, h2, h3, h4, h5]; rfl
end
end Dx
namespace Dx
open PySem PySem.Spec PyProof.Rows L2 Rt Dl
def below (p : List D) : D → D
  | .tuple [.tuple i, w] => .tuple [.tuple (p ++ i), w]
  | d => d
/-- what is told of a part of it: nothing, or a short path and a word -/
def FltP (d : D) : Prop := d = .none ∨ ∃ i w, d = .tuple [.tuple i, w] ∧ i.length ≤ 10
def firstF (pre : List D) (f : D → D) : Nat → List D → D
  | _, [] => .none
  | k, x :: xs => match f x with
    | .none => firstF pre f (k + 1) xs
    | d => below (pre ++ [PyData.int k]) d
theorem firstF_none {pre : List D} {f : D → D} {k : Nat} {x : D} {xs : List D} (h : f x = .none) : firstF pre f k (x :: xs) = firstF pre f (k + 1) xs := by
  show (match f x with | .none => firstF pre f (k + 1) xs | d => below (pre ++ [PyData.int k]) d) = _
  rw [h]
theorem firstF_some {pre : List D} {f : D → D} {k : Nat} {x : D} {xs : List D} (h : f x ≠ .none) : firstF pre f k (x :: xs) = below (pre ++ [PyData.int k]) (f x) := by
  show (match f x with | .none => firstF pre f (k + 1) xs | d => below (pre ++ [PyData.int k]) d) = _
  split
  · rename_i e; exact (h e).elim
  · rfl
theorem below_ne {p : List D} {d : D} (h : d ≠ .none) : below p d ≠ .none := by
  unfold below
  split
  · intro z; cases z
  · exact h
theorem ev_first {p : Pat} {body : Rho → Option Out} {f : D → D} {pre : List D} (I : Rho → Prop) : ∀ (xs : List D) (k : Nat) (ρ : Rho), I ρ → (∀ k x ρ, x ∈ xs → I ρ → ∃ ρ1, bindP p (.tuple [.int (k : Nat), x]) ρ = some ρ1 ∧ ((f x = .none ∧ ∃ ρ2, I ρ2 ∧ body ρ1 = some (.nx ρ2)) ∨ (f x ≠ .none ∧ body ρ1 = some (.rt (below (pre ++ [PyData.int (k : Nat)]) (f x)))))) →
    (∃ ρ', I ρ' ∧ firstF pre f k xs = .none ∧ forGo p body (enGo k xs) ρ = some (.nx ρ')) ∨ (firstF pre f k xs ≠ .none ∧ forGo p body (enGo k xs) ρ = some (.rt (firstF pre f k xs)))
  | [], k, ρ, i, _ => .inl ⟨ρ, i, rfl, rfl⟩
  | x :: xs, k, ρ, i, hb => by
    obtain ⟨ρ1, e1, h⟩ := hb k x ρ (by simp) i
    have fg : forGo p body (enGo k (x :: xs)) ρ = (body ρ1).bind fun o => match o with
      | .nx ρ2 => forGo p body (enGo (k + 1) xs) ρ2
      | .ct ρ2 => forGo p body (enGo (k + 1) xs) ρ2
      | .bk ρ2 => some (.nx ρ2)
      | .rt d => some (.rt d) := by
      show (bindP p (.tuple [.int k, x]) ρ).bind _ = _
      rw [e1]
      rfl
    rw [fg]
    rcases h with ⟨ht, ρ2, i2, e2⟩ | ⟨ht, e2⟩
    · rw [e2, firstF_none ht]
      exact ev_first I xs (k + 1) ρ2 i2 fun k x ρ m => hb k x ρ (by simp [m])
    · rw [e2, firstF_some ht]
      exact .inr ⟨below_ne ht, rfl⟩
theorem ev_firstS {it : Rho → Option (List D)} {p : Pat} {body rest : Rho → Option Out} {ρ : Rho} {xs : List D} {f : D → D} {pre : List D} (I : Rho → Prop) (hit : it ρ = some (enGo 0 xs)) (i0 : I ρ)
    (hb : ∀ k x ρ, x ∈ xs → I ρ → ∃ ρ1, bindP p (.tuple [.int (k : Nat), x]) ρ = some ρ1 ∧ ((f x = .none ∧ ∃ ρ2, I ρ2 ∧ body ρ1 = some (.nx ρ2)) ∨ (f x ≠ .none ∧ body ρ1 = some (.rt (below (pre ++ [PyData.int (k : Nat)]) (f x))))))
    (hn : ∀ ρ', I ρ' → rest ρ' = some (.rt .none)) : sSeq (sFor it p body) rest ρ = some (.rt (firstF pre f 0 xs)) := by
  have e : sFor it p body ρ = forGo p body (enGo 0 xs) ρ := by
    unfold sFor
    rw [hit]
    rfl
  rcases ev_first (f := f) (pre := pre) I xs 0 ρ i0 hb with ⟨ρ', i', e1, e2⟩ | ⟨e1, e2⟩
  · exact (ev_seq (e.trans e2)).trans (by rw [e1]; exact hn ρ' i')
  · exact ev_seqR (e.trans e2)
def partF (ks : List D) : D → D
  | .tuple [a, b, c] => if kindIn ks a = false then flt [0] "kind" else match b with
    | .int l => if isFrom 0 20 (.int l) = false then flt [1] "least" else if isFrom l 20 c = false then flt [2] "greatest" else .none
    | _ => flt [1] "least"
  | _ => flt [] "part"
def partsF (ks : List D) : D → D
  | .tuple ds => if isRow 1 3 (.tuple ds) = false then flt [] "parts" else firstF [] (partF ks) 0 ds
  | _ => flt [] "parts"
def sPartF : List D → Option D
  | [.tuple ks, d] => if (okD (.tuple ks) && okD d) = true then some (partF ks d) else none
  | _ => none
def sPartsF : List D → Option D
  | [.tuple ks, d] => if (okD (.tuple ks) && okD d) = true then some (partsF ks d) else none
  | _ => none
def sBelow : List D → Option D
  | [.tuple p, .tuple [.tuple i, w]] => if p.length + i.length ≤ sizeLine then some (below p (.tuple [.tuple i, w])) else none
  | _ => none
theorem flt_P {p : List Int} {w : String} (h : p.length ≤ 10) : FltP (flt p w) := .inr ⟨_, _, rfl, by rw [List.length_map]; exact h⟩
theorem below_P {p : List D} {d : D} (h : FltP d) (n : Nat) (hd : ∀ i w, d = .tuple [.tuple i, w] → p.length + i.length ≤ 10) : FltP (below p d) := by
  rcases h with rfl | ⟨i, w, rfl, _⟩
  · exact .inl rfl
  · exact .inr ⟨_, _, rfl, by rw [List.length_append]; exact hd i w rfl⟩
theorem isRow_three {d : D} (h : isRow 3 3 d = true) : ∃ a b c, d = .tuple [a, b, c] := by
  cases d <;> try (cases h; done)
  rename_i ds
  have : ds.length = 3 := by
    simp [isRow] at h
    omega
  match ds, this with
  | [a, b, c], _ => exact ⟨a, b, c, rfl⟩
theorem isRow_tup {lo hi : Int} {d : D} (h : isRow lo hi d = true) : ∃ ds, d = .tuple ds := by
  cases d <;> try (cases h; done)
  exact ⟨_, rfl⟩
theorem isFrom_int {lo hi : Int} {d : D} (h : isFrom lo hi d = true) : ∃ i, d = .int i := by
  cases d <;> try (cases h; done)
  exact ⟨_, rfl⟩
/-- none, or a path of at most n -/
def FltN (n : Nat) (d : D) : Prop := d = .none ∨ ∃ i w, d = .tuple [.tuple i, w] ∧ i.length ≤ n
theorem fltN {n : Nat} {p : List Int} {w : String} (h : p.length ≤ n) : FltN n (flt p w) := .inr ⟨_, _, rfl, by rw [List.length_map]; exact h⟩
theorem partF_N (ks : List D) (d : D) : FltN 1 (partF ks d) := by
  unfold partF
  split
  · split
    · exact fltN (by decide)
    · split
      · split
        · exact fltN (by decide)
        · split
          · exact fltN (by decide)
          · exact .inl rfl
      · exact fltN (by decide)
  · exact fltN (by decide)
theorem firstF_N {pre : List D} {f : D → D} {n m : Nat} (hf : ∀ x, FltN n (f x)) (hp : pre.length + 1 + n ≤ m) : ∀ (xs : List D) (k : Nat), FltN m (firstF pre f k xs)
  | [], _ => .inl rfl
  | x :: xs, k => by
    by_cases h : f x = .none
    · rw [firstF_none h]; exact firstF_N hf hp xs (k + 1)
    · rw [firstF_some h]
      rcases hf x with e | ⟨i, w, e, l⟩
      · exact (h e).elim
      · rw [e]
        exact .inr ⟨_, _, rfl, by simp; omega⟩
theorem partsF_N (ks : List D) (d : D) : FltN 2 (partsF ks d) := by
  unfold partsF
  split
  · split
    · exact fltN (by decide)
    · exact firstF_N (n := 1) (partF_N ks) (by simp) _ _
  · exact fltN (by decide)
theorem noN (d : D) : noND d .none = some (.bool (match d with | .none => false | _ => true)) := by cases d <;> rfl
section
variable {P : Program} {w : World} {K : PySem.W.Frag} {mg : Str → Option Value} {base : Heap}
theorem ok_below {f : Addr} {fd : FuncData} (F : Fun K "fault_below" "fault_below" s_fault_below f fd) : FnOk P w K mg base CX0 1 f fd ["path", "fault"] (spD 2 sBelow) := by
  refine okFn F sc_fault_below rfl fun cdv A outer s H E hr => ⟨_, (dSs_cons (dS_asg (K := K) (p := (.tp (.cons (.nm 2) (.cons (.nm 3) .nil)))) (ps_asg (dE_var (μ := true) (pv 1)) (pg_tup (by rfl) (pgs_cons (pg_name (i := 2) sc_fault_below.nd rfl (.inl rfl)) (pgs_cons (pg_name (i := 3) sc_fault_below.nd rfl (.inl rfl)) pgs_nil)))))
  (dSs_one (dS_ret (ps_ret (dE_tup (dA_cons (dE_op o_add (dE_var (μ := true) (pv 0)) (dE_var (μ := true) (pv 2))) (dA_cons (dE_var (μ := true) (pv 3)) (dA_nil (μ := true))))))))), fun ds d l e => ?_⟩
  match ds, e with
  | [.tuple p, .tuple [.tuple i, w]], e =>
    obtain ⟨l2, rfl⟩ := iteS e
    refine ⟨.rt (below p (.tuple [.tuple i, w])), ?_, rfl⟩
    refine (ev_asg rfl rfl).trans (ev_ret ?_)
    show ((addD (.tuple p) (.tuple i)).bind _).bind _ = _
    rw [add_tup l2]
    rfl
theorem ok_partF {f : Addr} {fd : FuncData} {t1 : Tok} (F : Fun K "part_fault" "part_fault" s_part_fault f fd) (g_OLD : mg "OLD" = some (.int 20 t1))
    (C_is_row : Cl P w K mg base 1 "is_row" ["thing", "fewest", "most"] (spD 3 sRow)) (C_is_number_from : Cl P w K mg base 2 "is_number_from" ["thing", "low", "high"] (spD 3 sFrom)) : FnOk P w K mg base CX0 3 f fd ["kinds", "part"] (spD 2 sPartF) := by
  refine okFn F sc_part_fault rfl fun cdv A outer s H E hr => ⟨_, (dSs_cons (dS_if (dT_not (dT_val (dE_cl C_is_row (hr.mono (by omega)) (by rfl) (dA_cons (dE_var (μ := true) (pv 1)) (dA_cons (dE_c (μ := true) pe_int) (dA_cons (dE_c (μ := true) pe_int) (dA_nil (μ := true))))))))
    (dSs_one (dS_ret (ps_ret (dE_tup (dA_cons (dE_tup (dA_nil (μ := true))) (dA_cons (dE_c (μ := true) pe_str) (dA_nil (μ := true))))))))
    dSs_nil)
  (dSs_cons (dS_asg (K := K) (p := (.tp (.cons (.nm 2) (.cons (.nm 3) (.cons (.nm 4) .nil))))) (ps_asg (dE_var (μ := true) (pv 1)) (pg_tup (by rfl) (pgs_cons (pg_name (i := 2) sc_part_fault.nd rfl (.inl rfl)) (pgs_cons (pg_name (i := 3) sc_part_fault.nd rfl (.inl rfl)) (pgs_cons (pg_name (i := 4) sc_part_fault.nd rfl (.inl rfl)) pgs_nil))))))
  (dSs_cons (dS_if (dT_cmp (o_nin (u65 hr)) (dE_var (μ := true) (pv 2)) (dE_var (μ := true) (pv 0)) (by rfl))
    (dSs_one (dS_ret (ps_ret (dE_tup (dA_cons (dE_tup (dA_cons (dE_c (μ := true) pe_int) (dA_nil (μ := true)))) (dA_cons (dE_c (μ := true) pe_str) (dA_nil (μ := true))))))))
    dSs_nil)
  (dSs_cons (dS_if (dT_not (dT_val (dE_cl C_is_number_from (hr.mono (by omega)) (by rfl) (dA_cons (dE_var (μ := true) (pv 3)) (dA_cons (dE_c (μ := true) pe_int) (dA_cons (dE_c (μ := true) (pe_glob (v := .int 20) (by rfl) g_OLD ⟨_, rfl⟩)) (dA_nil (μ := true))))))))
    (dSs_one (dS_ret (ps_ret (dE_tup (dA_cons (dE_tup (dA_cons (dE_c (μ := true) pe_int) (dA_nil (μ := true)))) (dA_cons (dE_c (μ := true) pe_str) (dA_nil (μ := true))))))))
    dSs_nil)
  (dSs_cons (dS_if (dT_not (dT_val (dE_cl C_is_number_from (hr.mono (by omega)) (by rfl) (dA_cons (dE_var (μ := true) (pv 4)) (dA_cons (dE_var (μ := true) (pv 3)) (dA_cons (dE_c (μ := true) (pe_glob (v := .int 20) (by rfl) g_OLD ⟨_, rfl⟩)) (dA_nil (μ := true))))))))
    (dSs_one (dS_ret (ps_ret (dE_tup (dA_cons (dE_tup (dA_cons (dE_c (μ := true) pe_int) (dA_nil (μ := true)))) (dA_cons (dE_c (μ := true) pe_str) (dA_nil (μ := true))))))))
    dSs_nil)
  (dSs_one (dS_ret (ps_ret (dE_c (μ := true) pe_non))))))))), fun ds d l e => ?_⟩
  match ds, e with
  | [.tuple ks, x], e =>
    obtain ⟨ok, rfl⟩ := iteS e
    have ok := Bool.and_eq_true_iff.mp ok
    refine ⟨.rt (partF ks x), ?_, rfl⟩
    refine (ev_guard (b := !isRow 3 3 x) rfl rfl).trans ?_
    cases h0 : isRow 3 3 x with
    | false =>
      have : partF ks x = flt [] "part" := by
        unfold partF
        split
        · cases h0
        · rfl
      rw [this]
      rfl
    | true =>
      obtain ⟨a, b, c, rfl⟩ := isRow_three h0
      have oa := okD.tup ok.2 a (by simp)
      refine (ev_asg rfl rfl).trans ?_
      refine (ev_guard (b := !kindIn ks a) (by show ((ninD a (.tuple ks)).bind bB) = _; rw [nin_tup oa ok.1]; rfl) rfl).trans ?_
      cases h1 : kindIn ks a with
      | false => simp only [partF, h1]; rfl
      | true =>
        refine (ev_guard (b := !isFrom 0 20 b) rfl rfl).trans ?_
        cases h2 : isFrom 0 20 b with
        | false =>
          simp only [partF, h1]
          cases b <;> try rfl
          simp only [h2]
          rfl
        | true =>
          obtain ⟨lo, rfl⟩ := isFrom_int h2
          refine (ev_guard (b := !isFrom lo 20 c) rfl rfl).trans ?_
          cases h3 : isFrom lo 20 c <;> (simp only [partF, h1, h2, h3]; rfl)
theorem ok_partsF {f : Addr} {fd : FuncData} {t1 : Tok} (F : Fun K "parts_fault" "parts_fault" s_parts_fault f fd) (g_PARTS : mg "PARTS" = some (.int 3 t1)) (m_enumerate : mg "enumerate" = none)
    (C_is_row : Cl P w K mg base 1 "is_row" ["thing", "fewest", "most"] (spD 3 sRow)) (C_part_fault : Cl P w K mg base 3 "part_fault" ["kinds", "part"] (spD 2 sPartF)) (C_fault_below : Cl P w K mg base 1 "fault_below" ["path", "fault"] (spD 2 sBelow)) : FnOk P w K mg base CX0 4 f fd ["kinds", "parts"] (spD 2 sPartsF) := by
  refine okFn F sc_parts_fault rfl fun cdv A outer s H E hr => ⟨_, (dSs_cons (dS_if (dT_not (dT_val (dE_cl C_is_row (hr.mono (by omega)) (by rfl) (dA_cons (dE_var (μ := true) (pv 1)) (dA_cons (dE_c (μ := true) pe_int) (dA_cons (dE_c (μ := true) (pe_glob (v := .int 3) (by rfl) g_PARTS ⟨_, rfl⟩)) (dA_nil (μ := true))))))))
    (dSs_one (dS_ret (ps_ret (dE_tup (dA_cons (dE_tup (dA_nil (μ := true))) (dA_cons (dE_c (μ := true) pe_str) (dA_nil (μ := true))))))))
    dSs_nil)
  (dSs_cons (dS_for (K := K) (p := (.tp (.cons (.nm 2) (.cons (.nm 3) .nil)))) (ps_for PassesOwn.never rfl (dI_enum (by rfl) m_enumerate (dA_cons (dE_var (μ := true) (pv 1)) (dA_nil (μ := true)))) (pg_tup (by rfl) (pgs_cons (pg_name (i := 2) sc_parts_fault.nd rfl (.inl rfl)) (pgs_cons (pg_name (i := 3) sc_parts_fault.nd rfl (.inl rfl)) pgs_nil)))
    (dSs_cons (dS_asg (K := K) (p := .nm 4) (ps_set (i := 4) sc_parts_fault.nd rfl (.inl rfl) (dE_cl C_part_fault (hr.mono (by omega)) (by rfl) (dA_cons (dE_var (μ := true) (pv 0)) (dA_cons (dE_var (μ := true) (pv 3)) (dA_nil (μ := true)))))))
  (dSs_one (dS_if (dT_cmp o_isnot (dE_var (μ := true) (pv 4)) (dE_c (μ := true) pe_non) (nomark _))
    (dSs_one (dS_ret (ps_ret (dE_cl C_fault_below (hr.mono (by omega)) (by rfl) (dA_cons (dE_tup (dA_cons (dE_var (μ := true) (pv 2)) (dA_nil (μ := true)))) (dA_cons (dE_var (μ := true) (pv 4)) (dA_nil (μ := true))))))))
    dSs_nil)))))
  (dSs_one (dS_ret (ps_ret (dE_c (μ := true) pe_non)))))), fun ds d l e => ?_⟩
  match ds, e with
  | [.tuple ks, x], e =>
    obtain ⟨ok, rfl⟩ := iteS e
    have ok := Bool.and_eq_true_iff.mp ok
    refine ⟨.rt (partsF ks x), ?_, rfl⟩
    refine (ev_guard (b := !isRow 1 3 x) rfl rfl).trans ?_
    cases h0 : isRow 1 3 x with
    | false =>
      have : partsF ks x = flt [] "parts" := by
        unfold partsF
        split
        · rw [h0]; rfl
        · rfl
      rw [this]
      rfl
    | true =>
      obtain ⟨xs, rfl⟩ := isRow_tup h0
      have ep : partsF ks (.tuple xs) = firstF [] (partF ks) 0 xs := by simp only [partsF, h0]; rfl
      rw [ep]
      refine ev_firstS (f := partF ks) (pre := []) (fun ρ => ∃ a b c, ρ = [some (.dat (.tuple ks)), some (.dat (.tuple xs)), a, b, c]) rfl ⟨_, _, _, rfl⟩ (fun k x ρ m i => ?_) (fun ρ i => by obtain ⟨a, b, c, rfl⟩ := i; rfl)
      · obtain ⟨a, b, c, rfl⟩ := i
        refine ⟨_, rfl, ?_⟩
        have ox := okD.tup ok.2 x m
        have ef : sPartF [.tuple ks, x] = some (partF ks x) := by
          show (if (okD (.tuple ks) && okD x) = true then some (partF ks x) else none) = _
          rw [if_pos (by rw [ok.1, ox]; rfl)]
        by_cases hn : partF ks x = .none
        · refine .inl ⟨hn, _, ⟨_, _, _, rfl⟩, (ev_asg (d := .none) (ev_call rfl rfl (ef.trans (by rw [hn]))) rfl).trans rfl⟩
        · refine .inr ⟨hn, ?_⟩
          rcases partF_N ks x with e | ⟨i, w, e, l⟩
          · exact (hn e).elim
          · refine (ev_asg (d := .tuple [.tuple i, w]) (ev_call rfl rfl (ef.trans (by rw [e]))) rfl).trans ?_
            refine (ev_ifR (b := true) rfl).trans (ev_ret (ev_call rfl rfl ?_))
            rw [e]
            exact if_pos (show 1 + i.length ≤ sizeLine from sz (by omega))
end
end Dx
namespace Dx
open PySem PySem.Spec PyProof.Rows L2 Rt Dl
/-! ### the first of a row that something is told of -/
def firstG (g : Nat → D → Option D) : Nat → List D → Option D
  | _, [] => none
  | k, x :: xs => match g k x with
    | some d => some d
    | none => firstG g (k + 1) xs
theorem firstG_no {g : Nat → D → Option D} {k : Nat} {x : D} {xs : List D} (h : g k x = none) : firstG g k (x :: xs) = firstG g (k + 1) xs := by
  show (match g k x with | some d => some d | none => firstG g (k + 1) xs) = _
  rw [h]
theorem firstG_yes {g : Nat → D → Option D} {k : Nat} {x : D} {xs : List D} {d : D} (h : g k x = some d) : firstG g k (x :: xs) = some d := by
  show (match g k x with | some d => some d | none => firstG g (k + 1) xs) = _
  rw [h]
def gF (pre : List D) (f : D → D) (k : Nat) (x : D) : Option D := match f x with
  | .none => none
  | d => some (below (pre ++ [PyData.int k]) d)
theorem gF_none {pre : List D} {f : D → D} {k : Nat} {x : D} (h : f x = .none) : gF pre f k x = none := by unfold gF; rw [h]
theorem gF_some {pre : List D} {f : D → D} {k : Nat} {x : D} (h : f x ≠ .none) : gF pre f k x = some (below (pre ++ [PyData.int k]) (f x)) := by
  unfold gF
  split
  · rename_i e; exact (h e).elim
  · rfl
def orN : Option D → D
  | some d => d
  | none => .none
theorem firstG_F {pre : List D} {f : D → D} : ∀ (xs : List D) (k : Nat), orN (firstG (gF pre f) k xs) = firstF pre f k xs
  | [], _ => rfl
  | x :: xs, k => by
    by_cases h : f x = .none
    · rw [firstF_none h, firstG_no (gF_none h), firstG_F xs (k + 1)]
    · rw [firstF_some h, firstG_yes (gF_some h)]
      rfl
def Gone (ds : List D) (g : Nat → D → Option D) (k : Nat) : Prop := ∀ (j : Nat) y, j < k → ds[j]? = some y → g j y = none
def outG (o : Out) : Option D → Out
  | some d => .rt d
  | none => o
theorem ev_gGo {p : Pat} {body : Rho → Option Out} {g : Nat → D → Option D} {ds : List D} {it : Nat → D → D} (I : Rho → Prop)
    (hb : ∀ (k : Nat) x ρ, ds[k]? = some x → Gone ds g k → I ρ → ∃ ρ1, bindP p (it k x) ρ = some ρ1 ∧ ((g k x = none ∧ ∃ ρ2, I ρ2 ∧ body ρ1 = some (.nx ρ2)) ∨ ∃ d, g k x = some d ∧ body ρ1 = some (.rt d))) :
    ∀ (xs items : List D) (k : Nat) (ρ : Rho), ds.drop k = xs → items.length = xs.length → (∀ (j : Nat) x, xs[j]? = some x → items[j]? = some (it (k + j) x)) → Gone ds g k → I ρ → (∃ ρ', I ρ' ∧ firstG g k xs = none ∧ forGo p body items ρ = some (.nx ρ')) ∨ ∃ d, firstG g k xs = some d ∧ forGo p body items ρ = some (.rt d)
  | [], items, k, ρ, _, hl, _, _, i => by
    have : items = [] := List.length_eq_zero_iff.mp hl
    subst this
    exact .inl ⟨ρ, i, rfl, rfl⟩
  | x :: xs, [], k, ρ, _, hl, _, _, i => nomatch hl
  | x :: xs, y :: items, k, ρ, hd, hl, hi, gone, i => by
    have ex : ds[k]? = some x := by
      have := congrArg (·[0]?) hd
      simpa using this
    have ey : y = it k x := by
      have := hi 0 x rfl
      simpa using this
    subst ey
    obtain ⟨ρ1, e1, h⟩ := hb k x ρ ex gone i
    have fg : forGo p body (it k x :: items) ρ = (body ρ1).bind fun o => match o with
      | .nx ρ2 => forGo p body items ρ2
      | .ct ρ2 => forGo p body items ρ2
      | .bk ρ2 => some (.nx ρ2)
      | .rt d => some (.rt d) := by
      show (bindP p (it k x) ρ).bind _ = _
      rw [e1]
      rfl
    rw [fg]
    rcases h with ⟨ht, ρ2, i2, e2⟩ | ⟨d, ht, e2⟩
    · rw [e2, firstG_no ht]
      refine ev_gGo I hb xs items (k + 1) ρ2 ?_ (by simpa using hl) (fun j z hz => ?_) (fun j z hj hz => ?_) i2
      · rw [← List.drop_drop, hd]; rfl
      · have := hi (j + 1) z (by simpa using hz)
        rw [show k + 1 + j = k + (j + 1) by omega]
        simpa using this
      · by_cases e : j = k
        · subst e
          rw [ex] at hz
          cases hz
          exact ht
        · exact gone j z (by omega) hz
    · rw [e2, firstG_yes ht]
      exact .inr ⟨d, rfl, rfl⟩
theorem ev_enumG {it : Rho → Option (List D)} {p : Pat} {body rest : Rho → Option Out} {ρ : Rho} {ds : List D} {g : Nat → D → Option D} (I : Rho → Prop) (o : Out) (hit : it ρ = some (enGo 0 ds)) (i0 : I ρ)
    (hb : ∀ (k : Nat) x ρ, ds[k]? = some x → Gone ds g k → I ρ → ∃ ρ1, bindP p (.tuple [.int k, x]) ρ = some ρ1 ∧ ((g k x = none ∧ ∃ ρ2, I ρ2 ∧ body ρ1 = some (.nx ρ2)) ∨ ∃ d, g k x = some d ∧ body ρ1 = some (.rt d)))
    (hn : ∀ ρ', I ρ' → firstG g 0 ds = none → rest ρ' = some o) : sSeq (sFor it p body) rest ρ = some (outG o (firstG g 0 ds)) := by
  have e : sFor it p body ρ = forGo p body (enGo 0 ds) ρ := by
    unfold sFor
    rw [hit]
    rfl
  rcases ev_gGo (it := fun k x => .tuple [.int (k : Nat), x]) I hb ds (enGo 0 ds) 0 ρ rfl (enGo.len 0 ds) (fun j x hx => enGo.get 0 ds j x hx) (fun j y hj => absurd hj (by omega)) i0 with ⟨ρ', i', e1, e2⟩ | ⟨d, e1, e2⟩
  · rw [e1]
    exact (ev_seq (e.trans e2)).trans (hn ρ' i' e1)
  · rw [e1]
    exact ev_seqR (e.trans e2)
theorem rgD_len (lo : Int) (n : Nat) : (rgD lo n).length = n := by unfold rgD; rw [List.length_map, List.length_range]
theorem rgD_get {lo : Int} {n j : Nat} (h : j < n) : (rgD lo n)[j]? = some (.int (lo + j)) := by
  unfold rgD
  rw [List.getElem?_map, List.getElem?_range h]
  rfl
theorem ev_rangeG {it : Rho → Option (List D)} {p : Pat} {body rest : Rho → Option Out} {ρ : Rho} {ds : List D} {g : Nat → D → Option D} (I : Rho → Prop) (o : Out) (hit : it ρ = some (rgD 0 ds.length)) (i0 : I ρ)
    (hb : ∀ (k : Nat) x ρ, ds[k]? = some x → Gone ds g k → I ρ → ∃ ρ1, bindP p (.int k) ρ = some ρ1 ∧ ((g k x = none ∧ ∃ ρ2, I ρ2 ∧ body ρ1 = some (.nx ρ2)) ∨ ∃ d, g k x = some d ∧ body ρ1 = some (.rt d)))
    (hn : ∀ ρ', I ρ' → firstG g 0 ds = none → rest ρ' = some o) : sSeq (sFor it p body) rest ρ = some (outG o (firstG g 0 ds)) := by
  have e : sFor it p body ρ = forGo p body (rgD 0 ds.length) ρ := by
    unfold sFor
    rw [hit]
    rfl
  rcases ev_gGo (it := fun k _ => .int (k : Nat)) I hb ds (rgD 0 ds.length) 0 ρ rfl (rgD_len _ _) (fun j x hx => by
      have := rgD_get (lo := 0) (List.getElem?_eq_some_iff.mp hx).1
      simpa using this) (fun j y hj => absurd hj (by omega)) i0 with ⟨ρ', i', e1, e2⟩ | ⟨d, e1, e2⟩
  · rw [e1]
    exact (ev_seq (e.trans e2)).trans (hn ρ' i' e1)
  · rw [e1]
    exact ev_seqR (e.trans e2)
/-! ### names and kinds -/
def LET : List Nat := (Str.ofString "abcdefghijklmnopqrstuvwxyz").cps.toList
def isName : D → Bool
  | .str z => decide (1 ≤ (z.length : Int)) && decide ((z.length : Int) ≤ 8) && z.cps.toList.all fun c => decide (c ∈ LET)
  | _ => false
def ltS : D → D → Bool
  | .str a, .str b => decide (a.cps.toList < b.cps.toList)
  | _, _ => false
def badK (ds : List D) (k : Nat) (x : D) : Bool := !isName x || (decide (0 < k) && !(match ds[k - 1]? with | some y => ltS y x | none => false))
def gK (ds : List D) (k : Nat) (x : D) : Option D := if badK ds k x = true then some (flt [1, k] "name") else none
def kindsF : D → D
  | .tuple ds => if isRow 1 4 (.tuple ds) = false then flt [1] "kinds" else orN (firstG (gK ds) 0 ds)
  | _ => flt [1] "kinds"
def sName : List D → Option D
  | [d] => some (.bool (isName d))
  | _ => none
def sKindsF : List D → Option D
  | [d] => some (kindsF d)
  | _ => none
theorem isName_str {d : D} (h : isName d = true) : ∃ z, d = .str z := by
  cases d <;> try (cases h; done)
  exact ⟨_, rfl⟩
theorem rt_orN {d : Option D} : outG (.rt .none) d = .rt (orN d) := by cases d <;> rfl
section
variable {P : Program} {w : World} {K : PySem.W.Frag} {mg : Str → Option Value} {base : Heap}
theorem ok_name {f : Addr} {fd : FuncData} {t1 t2 : Tok} (F : Fun K "is_name" "is_name" s_is_name f fd) (m_isinstance : mg "isinstance" = none) (m_str : mg "str" = none) (m_len : mg "len" = none) (m_all : mg "all" = none) (g_LETTERS : mg "LETTERS" = some (.str (Str.ofString "abcdefghijklmnopqrstuvwxyz") t1)) (g_NAME_LENGTH : mg "NAME_LENGTH" = some (.int 8 t2)) : FnOk P w K mg base CX0 1 f fd ["thing"] (spD 1 sName) := by
  refine okFn F sc_is_name rfl fun cdv A outer s H E hr => ⟨_, (dSs_cons (dS_if (PW.pt (dW_or (dT_not (dT_val (dE_isi (dE_var (μ := true) (pv 0)) (pe_bltn (v := .ty "str") (by rfl) m_str (by decide +kernel) rfl) (by rfl) m_isinstance (by decide +kernel)))) (dW_or1 (dT_not (dT_chain o_le o_le (dE_c (μ := true) pe_int) (dE_callB c_len (by rfl) m_len (by decide +kernel) (dA_cons (dE_var (μ := true) (pv 0)) (dA_nil (μ := true)))) (dE_c (μ := true) (pe_glob (v := .int 8) (by rfl) g_NAME_LENGTH ⟨_, rfl⟩)))))))
    (dSs_one (dS_ret (ps_ret (dE_c (μ := true) pe_bl))))
    dSs_nil)
  (dSs_one (dS_ret (ps_ret (dE_callB (c_all rfl) (by rfl) m_all (by decide +kernel) (dA_cons (dE_lc (K := K) (p := (.nm 1)) (pe_lc (own := [("sign", 1)]) (g := gP K (.nm 1)) rfl sc_is_name.nd (dI_str (dE_var (μ := true) (pv 0))) (blkOk_by (own := [("sign", 1)]) (N := ["thing", "sign"]) (sc := defScope s_is_name) (by decide +kernel)) (fun _ _ _ _ _ => (pg_name (i := 1) sc_is_name.nd rfl (.inl rfl))) (fun _ _ _ _ _ => dTs_nil) (fun _ _ _ _ _ => (dE_cmp (o_in (u65 hr)) (dE_var (μ := true) (pv 1)) (dE_c (μ := true) (pe_glob (v := .str (Str.ofString "abcdefghijklmnopqrstuvwxyz")) (by rfl) g_LETTERS ⟨_, rfl⟩)) (by rfl))))) (dA_nil (μ := true)))))))), fun ds d l e => ?_⟩
  match ds, e with
  | [x], e =>
    cases e
    refine ⟨.rt (.bool (isName x)), ?_, rfl⟩
    by_cases hs : ∃ z, x = .str z
    · obtain ⟨z, rfl⟩ := hs
      refine (ev_guard (b := !(decide (1 ≤ (z.length : Int)) && decide ((z.length : Int) ≤ 8))) ?_ rfl).trans ?_
      · refine (ev_oOr (b := false) (ev_not (b := true) (ev_oB ((isi_str (.str z)).trans rfl)))).trans ?_
        refine ev_not (ev_oB ?_)
        by_cases h : 1 ≤ (z.length : Int)
        · simp [eChain, eC, eCall, aCons, aNil, eVar, lenD, leD, bB, startR, h]
        · simp [eChain, eC, eCall, aCons, aNil, eVar, lenD, leD, bB, startR, h]
      · cases h1 : (decide (1 ≤ (z.length : Int)) && decide ((z.length : Int) ≤ 8)) with
        | false => simp only [isName, h1]; rfl
        | true =>
          refine ev_ret ?_
          refine (ev_all (xs := z.cps.toList) (t := fun c => decide (c ∈ LET)) rfl ?_).trans (by simp only [isName, h1, Bool.true_and])
          refine (ev_lc (t := fun x => .bool (match x with | .str s => (match s.cps.toList with | [c] => decide (c ∈ LET) | _ => false) | _ => false)) (by show 1 < 2; decide) (strL z) fun x hx => ?_).trans ?_
          · obtain ⟨c, _, rfl⟩ := List.mem_map.mp hx
            rfl
          · unfold strL
            rw [List.map_map]
            rfl
    · have hn : isName x = false := by
        cases x <;> first | rfl | exact (hs ⟨_, rfl⟩).elim
      rw [hn]
      refine (ev_guard (b := true) ?_ rfl).trans rfl
      refine (ev_oOr (b := true) (ev_not (b := false) (ev_oB ((isi_str x).trans ?_)))).trans rfl
      cases x <;> first | rfl | exact (hs ⟨_, rfl⟩).elim
theorem ok_kindsF {f : Addr} {fd : FuncData} {t1 : Tok} (F : Fun K "kinds_fault" "kinds_fault" s_kinds_fault f fd) (m_enumerate : mg "enumerate" = none) (g_KINDS : mg "KINDS" = some (.int 4 t1)) (C_is_row : Cl P w K mg base 1 "is_row" ["thing", "fewest", "most"] (spD 3 sRow)) (C_is_name : Cl P w K mg base 1 "is_name" ["thing"] (spD 1 sName)) : FnOk P w K mg base CX0 2 f fd ["kinds"] (spD 1 sKindsF) := by
  refine okFn F sc_kinds_fault rfl fun cdv A outer s H E hr => ⟨_, (dSs_cons (dS_if (dT_not (dT_val (dE_cl C_is_row (hr.mono (by omega)) (by rfl) (dA_cons (dE_var (μ := true) (pv 0)) (dA_cons (dE_c (μ := true) pe_int) (dA_cons (dE_c (μ := true) (pe_glob (v := .int 4) (by rfl) g_KINDS ⟨_, rfl⟩)) (dA_nil (μ := true))))))))
    (dSs_one (dS_ret (ps_ret (dE_tup (dA_cons (dE_tup (dA_cons (dE_c (μ := true) pe_int) (dA_nil (μ := true)))) (dA_cons (dE_c (μ := true) pe_str) (dA_nil (μ := true))))))))
    dSs_nil)
  (dSs_cons (dS_for (K := K) (p := (.tp (.cons (.nm 1) (.cons (.nm 2) .nil)))) (ps_for PassesOwn.never rfl (dI_enum (by rfl) m_enumerate (dA_cons (dE_var (μ := true) (pv 0)) (dA_nil (μ := true)))) (pg_tup (by rfl) (pgs_cons (pg_name (i := 1) sc_kinds_fault.nd rfl (.inl rfl)) (pgs_cons (pg_name (i := 2) sc_kinds_fault.nd rfl (.inl rfl)) pgs_nil)))
    (dSs_one (dS_if (PW.pt (dW_or (dT_not (dT_val (dE_cl C_is_name (hr.mono (by omega)) (by rfl) (dA_cons (dE_var (μ := true) (pv 2)) (dA_nil (μ := true)))))) (dW_or1 (PW.pt (dW_and (dT_cmp o_gt (dE_var (μ := true) (pv 1)) (dE_c (μ := true) pe_int) (nomark _)) (dW_and1 (dT_cmp o_le (dE_var (μ := true) (pv 2)) (dE_ix (dE_var (μ := true) (pv 0)) (dE_op o_sub (dE_var (μ := true) (pv 1)) (dE_c (μ := true) pe_int))) (nomark _))))))))
    (dSs_one (dS_ret (ps_ret (dE_tup (dA_cons (dE_tup (dA_cons (dE_c (μ := true) pe_int) (dA_cons (dE_var (μ := true) (pv 1)) (dA_nil (μ := true))))) (dA_cons (dE_c (μ := true) pe_str) (dA_nil (μ := true))))))))
    dSs_nil))))
  (dSs_one (dS_ret (ps_ret (dE_c (μ := true) pe_non)))))), fun ds d l e => ?_⟩
  match ds, e with
  | [x], e =>
    cases e
    refine ⟨.rt (kindsF x), ?_, rfl⟩
    refine (ev_guard (b := !isRow 1 4 x) rfl rfl).trans ?_
    cases h0 : isRow 1 4 x with
    | false =>
      have : kindsF x = flt [1] "kinds" := by
        unfold kindsF
        split
        · rw [h0]; rfl
        · rfl
      rw [this]
      rfl
    | true =>
      obtain ⟨xs, rfl⟩ := isRow_tup h0
      have ep : kindsF (.tuple xs) = orN (firstG (gK xs) 0 xs) := by simp only [kindsF, h0]; rfl
      rw [ep, ← rt_orN]
      refine ev_enumG (fun ρ => ∃ a b, ρ = [some (.dat (.tuple xs)), a, b]) (.rt .none) rfl ⟨_, _, rfl⟩ (fun k x ρ ex gone i => ?_) (fun ρ i _ => by obtain ⟨a, b, rfl⟩ := i; rfl)
      obtain ⟨a, b, rfl⟩ := i
      refine ⟨_, rfl, ?_⟩
      have tst : oOr (oNot (oB (eCall (gN 1 sName) (aCons (eVar 2) aNil)))) (oAnd (oB (e2 gtD (eVar 1) (eC (.int 0)))) (oB (e2 leD (eVar 2) (e2 ixD (eVar 0) (e2 subD (eVar 1) (eC (.int 1))))))) [some (.dat (.tuple xs)), some (.dat (.int k)), some (.dat x)] = some (badK xs k x) := by
        unfold badK
        show (if (!isName x) = true then some true else _) = _
        cases hx : isName x with
        | false => rfl
        | true =>
          show (if decide ((k : Int) > 0) = true then _ else some false) = _
          by_cases hk : 0 < k
          · have hk' : decide ((k : Int) > 0) = true := decide_eq_true (by omega)
            rw [hk']
            have hk1 : k - 1 < xs.length := by
              have := (List.getElem?_eq_some_iff.mp ex).1
              omega
            obtain ⟨y, hy⟩ : ∃ y, xs[k - 1]? = some y := ⟨_, List.getElem?_eq_getElem hk1⟩
            have gy := gone (k - 1) y (by omega) hy
            unfold gK at gy
            have by1 : badK xs (k - 1) y = false := by
              cases z : badK xs (k - 1) y with
              | false => rfl
              | true => rw [z] at gy; cases gy
            have ny : isName y = true := by
              unfold badK at by1
              cases z : isName y with
              | true => rfl
              | false => rw [z] at by1; cases by1
            obtain ⟨zx, rfl⟩ := isName_str hx
            obtain ⟨zy, rfl⟩ := isName_str ny
            have ai : L2.atI xs ((k : Int) - 1) = some (.str zy) := by
              rw [show ((k : Int) - 1) = ((k - 1 : Nat) : Int) by omega]
              exact atI_nat hy
            show (((L2.atI xs ((k : Int) - 1)).bind fun b => leD (.str zx) b).bind bB) = _
            rw [ai, hy]
            simp [leD, bB, ltS, hk]
          · have hk' : decide ((k : Int) > 0) = false := decide_eq_false (by omega)
            rw [hk']
            simp [hk]
      unfold gK
      cases hb : badK xs k x with
      | true => exact .inr ⟨_, if_pos rfl, (ev_ifR (tst.trans (by rw [hb]))).trans rfl⟩
      | false => exact .inl ⟨if_neg (by decide), _, ⟨_, _, rfl⟩, (ev_ifR (tst.trans (by rw [hb]))).trans rfl⟩
end
end Dx
namespace Dx
open PySem PySem.Spec PyProof.Rows L2 Rt Dl
def ris (l : List Int) : Bool := (l.zip (l.drop 1)).all fun p => decide (p.1 < p.2)
def sRis : List D → Option D
  | [.tuple ds] => (intsD ds).map fun ns => .bool (ris ns)
  | _ => none
def hoursOk (n : Int) : D → Bool
  | .tuple ds => isRow 0 n (.tuple ds) && (ds.all (isFrom 0 (n - 1)) && (match intsD ds with | some ns => ris ns | none => false))
  | _ => false
def sHours : List D → Option D
  | [.int n, d] => some (.bool (hoursOk n d))
  | _ => none
def keepsOk (c : D) : Bool := [S "oldest", S "youngest"].any fun z => PyData.eqv z c
def wayF (n : Int) (ks : List D) : D → D
  | .tuple [a, b, c, e, f] => if kindIn ks a = false then flt [0] "kind" else match partsF ks b with
    | .none => if keepsOk c = false then flt [2] "keeps" else if hoursOk n e = false then flt [3] "hours" else if isFrom 1 6 f = false then flt [4] "wait" else .none
    | d => below [.int 1] d
  | _ => flt [] "way"
def srcsF (n : Int) (ks : List D) : D → D
  | .tuple ds => if isRow 0 6 (.tuple ds) = false then flt [2] "sources" else firstF [.int 2] (srcF n ks) 0 ds
  | _ => flt [2] "sources"
def waysF (n : Int) (ks : List D) : D → D
  | .tuple ds => if isRow 0 8 (.tuple ds) = false then flt [3] "ways" else firstF [.int 3] (wayF n ks) 0 ds
  | _ => flt [3] "ways"
def orF (a b : D) : D := match a with
  | .none => b
  | d => d
def worldF : D → D
  | .tuple [.int n, .tuple ks, s, w] => if isFrom 1 6 (.int n) = false then flt [0] "round" else orF (kindsF (.tuple ks)) (orF (srcsF n ks s) (waysF n ks w))
  | .tuple [n, k, s, w] => if isFrom 1 6 n = false then flt [0] "round" else kindsF k
  | _ => flt [] "world"
def sWay : List D → Option D
  | [.int n, .tuple ks, d] => if (okD (.tuple ks) && okD d) = true then some (wayF n ks d) else none
  | _ => none
def sSrcs : List D → Option D
  | [.int n, .tuple ks, d] => if (okD (.tuple ks) && okD d) = true then some (srcsF n ks d) else none
  | _ => none
def sWays : List D → Option D
  | [.int n, .tuple ks, d] => if (okD (.tuple ks) && okD d) = true then some (waysF n ks d) else none
  | _ => none
def sWorldF : List D → Option D
  | [d] => if okD d = true then some (worldF d) else none
  | _ => none
theorem cut1 {α : Type} (xs : List α) : cutD xs (some 1) none = xs.drop 1 := by
  unfold Dl.cutD
  rw [HT.sIx_none, show (some (1 : Int)) = some ((1 : Nat) : Int) from rfl, HT.sIx_nat]
  cases xs with
  | nil => rfl
  | cons x r =>
    rw [show min 1 (x :: r).length = 1 by simp]
    exact List.take_of_length_le (by simp)
theorem ev_lcP {i j : Nat} {f : EF} {ρ : Rho} {t : D → D → D} (hi : i < ρ.length) (hj : j < ρ.length) : ∀ (xs : List (D × D)), (∀ x ∈ xs, f ((ρ.set i (some (.dat x.1))).set j (some (.dat x.2))) = some (t x.1 x.2)) → lcGo (.tp (.cons (.nm i) (.cons (.nm j) .nil))) oYes f ρ (xs.map fun x => .tuple [x.1, x.2]) = some (xs.map fun x => t x.1 x.2)
  | [], _ => rfl
  | x :: xs, h => by
    have e1 : bindP (.tp (.cons (.nm i) (.cons (.nm j) .nil))) (.tuple [x.1, x.2]) ρ = some ((ρ.set i (some (.dat x.1))).set j (some (.dat x.2))) := by
      show (bindP (.nm i) x.1 ρ).bind _ = _
      unfold bindP
      rw [if_pos hi]
      show (bindP (.nm j) x.2 _).bind _ = _
      unfold bindP
      rw [if_pos (by rw [List.length_set]; exact hj)]
      rfl
    show (bindP _ (.tuple [x.1, x.2]) ρ).bind _ = _
    rw [e1]
    show (f _).bind _ = _
    rw [h x (by simp)]
    show (lcGo _ _ _ _ _).map _ = _
    rw [ev_lcP hi hj xs fun y hy => h y (by simp [hy])]
    rfl
theorem zp_zip : ∀ (as bs : List D), zpGo as bs = (as.zip bs).map fun x => .tuple [x.1, x.2]
  | [], bs => by cases bs <;> rfl
  | a :: as, [] => rfl
  | a :: as, b :: bs => by
    show PyData.tuple [a, b] :: zpGo as bs = _
    rw [zp_zip as bs]
    rfl
theorem ints_eq : ∀ {ds : List D} {ns : List Int}, intsD ds = some ns → ds = ns.map .int
  | [], _, e => by cases e; rfl
  | .int i :: ds, _, e => by
    obtain ⟨r, er, rfl⟩ := some_map e
    rw [ints_eq er]
    rfl
  | .none :: _, _, e => nomatch e
  | .bool _ :: _, _, e => nomatch e
  | .str _ :: _, _, e => nomatch e
  | .list _ :: _, _, e => nomatch e
  | .tuple _ :: _, _, e => nomatch e
  | .dict _ :: _, _, e => nomatch e
theorem ints_of : ∀ {ds : List D} {lo hi : Int}, ds.all (isFrom lo hi) = true → ∃ ns, intsD ds = some ns
  | [], _, _, _ => ⟨[], rfl⟩
  | x :: ds, lo, hi, h => by
    rw [List.all_cons, Bool.and_eq_true_iff] at h
    obtain ⟨i, rfl⟩ := isFrom_int h.1
    obtain ⟨ns, e⟩ := ints_of h.2
    exact ⟨i :: ns, by show (intsD ds).map _ = _; rw [e]; rfl⟩
theorem srcF_N (n : Int) (ks : List D) (d : D) : FltN 1 (srcF n ks d) := by
  unfold srcF
  split
  · repeat' split
    all_goals first | exact fltN (by decide) | exact .inl rfl
  · exact fltN (by decide)
theorem wayF_N (n : Int) (ks : List D) (d : D) : FltN 3 (wayF n ks d) := by
  unfold wayF
  split
  · split
    · exact fltN (by decide)
    · rename_i b _ _ _ _
      rcases partsF_N ks b with e | ⟨i, w, e, l⟩
      · rw [e]
        repeat' split
        all_goals first | exact fltN (by decide) | exact .inl rfl | contradiction
      · rw [e]
        exact .inr ⟨_, _, rfl, by simp; omega⟩
  · exact fltN (by decide)
section
variable {P : Program} {w : World} {K : PySem.W.Frag} {mg : Str → Option Value} {base : Heap}
theorem ok_ris {f : Addr} {fd : FuncData} (F : Fun K "is_rising" "is_rising" s_is_rising f fd) (m_all : mg "all" = none) (m_zip : mg "zip" = none) : FnOk P w K mg base CX0 1 f fd ["row"] (spD 1 sRis) := by
  refine okFn F sc_is_rising rfl fun cdv A outer s H E hr => ⟨_, (dSs_one (dS_ret (ps_ret (dE_callB (c_all rfl) (by rfl) m_all (by decide +kernel) (dA_cons (dE_lc (K := K) (p := (.tp (.cons (.nm 1) (.cons (.nm 2) .nil)))) (pe_lc (own := [("ahead", 1), ("behind", 2)]) (g := gP K (.tp (.cons (.nm 1) (.cons (.nm 2) .nil)))) rfl sc_is_rising.nd (dI_zip (by rfl) m_zip (dA_cons (dE_var (μ := true) (pv 0)) (dA_cons (dE_sl (dE_var (μ := true) (pv 0)) (dO_some (dE_c (μ := true) pe_int)) dO_none) (dA_nil (μ := true))))) (blkOk_by (own := [("ahead", 1), ("behind", 2)]) (N := ["row", "ahead", "behind"]) (sc := defScope s_is_rising) (by decide +kernel)) (fun _ _ _ _ _ => (pg_tup (by rfl) (pgs_cons (pg_name (i := 1) sc_is_rising.nd rfl (.inl rfl)) (pgs_cons (pg_name (i := 2) sc_is_rising.nd rfl (.inl rfl)) pgs_nil)))) (fun _ _ _ _ _ => dTs_nil) (fun _ _ _ _ _ => (dE_cmp o_lt (dE_var (μ := true) (pv 1)) (dE_var (μ := true) (pv 2)) (nomark _))))) (dA_nil (μ := true))))))), fun ds d l e => ?_⟩
  match ds, e with
  | [.tuple xs], e =>
    obtain ⟨ns, en, rfl⟩ := some_map e
    have ex := ints_eq en
    refine ⟨.rt (.bool (ris ns)), ev_ret (ev_all (xs := ns.zip (ns.drop 1)) (t := fun p => decide (p.1 < p.2)) (items := zpGo xs (xs.drop 1)) ?_ ?_), rfl⟩
    · show some (zpGo xs (cutD xs (some 1) none)) = _
      rw [cut1]
    · rw [zp_zip, ex, ← List.map_drop, List.zip_map, List.map_map]
      have := ev_lcP (i := 1) (j := 2) (f := e2 ltD (eVar 1) (eVar 2)) (ρ := [some (.dat (.tuple (ns.map .int))), none, none]) (t := fun a b => .bool (match a, b with | .int i, .int j => decide (i < j) | _, _ => false)) (by show 1 < 3; decide) (by show 2 < 3; decide) ((ns.zip (ns.drop 1)).map fun p => (PyData.int p.1, PyData.int p.2)) (fun x hx => by
        obtain ⟨p, _, rfl⟩ := List.mem_map.mp hx
        rfl)
      rw [List.map_map, List.map_map] at this
      exact this
theorem ok_hours {f : Addr} {fd : FuncData} (F : Fun K "is_hours" "is_hours" s_is_hours f fd) (m_all : mg "all" = none) (C_is_row : Cl P w K mg base 1 "is_row" ["thing", "fewest", "most"] (spD 3 sRow)) (C_is_number_from : Cl P w K mg base 2 "is_number_from" ["thing", "low", "high"] (spD 3 sFrom)) (C_is_rising : Cl P w K mg base 1 "is_rising" ["row"] (spD 1 sRis)) : FnOk P w K mg base CX0 3 f fd ["span", "hours"] (spD 2 sHours) := by
  refine okFn F sc_is_hours rfl fun cdv A outer s H E hr => ⟨_, (dSs_cons (dS_if (dT_not (dT_val (dE_cl C_is_row (hr.mono (by omega)) (by rfl) (dA_cons (dE_var (μ := true) (pv 1)) (dA_cons (dE_c (μ := true) pe_int) (dA_cons (dE_var (μ := true) (pv 0)) (dA_nil (μ := true))))))))
    (dSs_one (dS_ret (ps_ret (dE_c (μ := true) pe_bl))))
    dSs_nil)
  (dSs_one (dS_ret (ps_ret (dE_and (dE_callB (c_all rfl) (by rfl) m_all (by decide +kernel) (dA_cons (dE_lc (K := K) (p := (.nm 2)) (pe_lc (own := [("hour", 2)]) (g := gP K (.nm 2)) rfl sc_is_hours.nd (dI_seq (dE_var (μ := true) (pv 1))) (blkOk_by (own := [("hour", 2)]) (N := ["span", "hours", "hour"]) (sc := defScope s_is_hours) (by decide +kernel)) (fun _ _ _ _ _ => (pg_name (i := 2) sc_is_hours.nd rfl (.inl rfl))) (fun _ _ _ _ _ => dTs_nil) (fun _ _ _ _ _ => (dE_cl C_is_number_from (hr.mono (by omega)) (by rfl) (dA_cons (dE_var (μ := true) (pv 2)) (dA_cons (dE_c (μ := true) pe_int) (dA_cons (dE_op o_sub (dE_var (μ := true) (pv 0)) (dE_c (μ := true) pe_int)) (dA_nil (μ := true))))))))) (dA_nil (μ := true)))) (dE_one (dE_cl C_is_rising (hr.mono (by omega)) (by rfl) (dA_cons (dE_var (μ := true) (pv 1)) (dA_nil (μ := true)))))))))), fun ds d l e => ?_⟩
  match ds, e with
  | [.int n, x], e =>
    cases e
    refine ⟨.rt (.bool (hoursOk n x)), ?_, rfl⟩
    refine (ev_guard (b := !isRow 0 n x) rfl rfl).trans ?_
    cases h0 : isRow 0 n x with
    | false =>
      have : hoursOk n x = false := by
        unfold hoursOk
        split
        · rw [h0]; rfl
        · rfl
      rw [this]
      rfl
    | true =>
      obtain ⟨xs, rfl⟩ := isRow_tup h0
      refine ev_ret (ev_and (b := xs.all (isFrom 0 (n - 1))) (ev_all (xs := xs) (t := isFrom 0 (n - 1)) rfl (ev_lc (t := fun x => .bool (isFrom 0 (n - 1) x)) (by show 2 < 3; decide) xs fun x _ => rfl)) (fun ha => ?_) (fun ha => ?_))
      · obtain ⟨ns, en⟩ := ints_of ha
        refine ev_call rfl rfl ?_
        show (intsD xs).map _ = _
        simp only [hoursOk, h0, ha, en]
        rfl
      · simp only [hoursOk, h0, ha]
        rfl
theorem ok_wayF {f : Addr} {fd : FuncData} {t1 : Tok} (F : Fun K "way_fault" "way_fault" s_way_fault f fd) (g_WAIT : mg "WAIT" = some (.int 6 t1))
    (C_is_row : Cl P w K mg base 1 "is_row" ["thing", "fewest", "most"] (spD 3 sRow)) (C_is_number_from : Cl P w K mg base 2 "is_number_from" ["thing", "low", "high"] (spD 3 sFrom)) (C_parts_fault : Cl P w K mg base 4 "parts_fault" ["kinds", "parts"] (spD 2 sPartsF)) (C_fault_below : Cl P w K mg base 1 "fault_below" ["path", "fault"] (spD 2 sBelow)) (C_is_hours : Cl P w K mg base 3 "is_hours" ["span", "hours"] (spD 2 sHours)) : FnOk P w K mg base CX0 5 f fd ["span", "kinds", "way"] (spD 3 sWay) := by
  refine okFn F sc_way_fault rfl fun cdv A outer s H E hr => ⟨_, (dSs_cons (dS_if (dT_not (dT_val (dE_cl C_is_row (hr.mono (by omega)) (by rfl) (dA_cons (dE_var (μ := true) (pv 2)) (dA_cons (dE_c (μ := true) pe_int) (dA_cons (dE_c (μ := true) pe_int) (dA_nil (μ := true))))))))
    (dSs_one (dS_ret (ps_ret (dE_tup (dA_cons (dE_tup (dA_nil (μ := true))) (dA_cons (dE_c (μ := true) pe_str) (dA_nil (μ := true))))))))
    dSs_nil)
  (dSs_cons (dS_asg (K := K) (p := (.tp (.cons (.nm 3) (.cons (.nm 4) (.cons (.nm 5) (.cons (.nm 6) (.cons (.nm 7) .nil))))))) (ps_asg (dE_var (μ := true) (pv 2)) (pg_tup (by rfl) (pgs_cons (pg_name (i := 3) sc_way_fault.nd rfl (.inl rfl)) (pgs_cons (pg_name (i := 4) sc_way_fault.nd rfl (.inl rfl)) (pgs_cons (pg_name (i := 5) sc_way_fault.nd rfl (.inl rfl)) (pgs_cons (pg_name (i := 6) sc_way_fault.nd rfl (.inl rfl)) (pgs_cons (pg_name (i := 7) sc_way_fault.nd rfl (.inl rfl)) pgs_nil))))))))
  (dSs_cons (dS_if (dT_cmp (o_nin (u65 hr)) (dE_var (μ := true) (pv 3)) (dE_var (μ := true) (pv 1)) (by rfl))
    (dSs_one (dS_ret (ps_ret (dE_tup (dA_cons (dE_tup (dA_cons (dE_c (μ := true) pe_int) (dA_nil (μ := true)))) (dA_cons (dE_c (μ := true) pe_str) (dA_nil (μ := true))))))))
    dSs_nil)
  (dSs_cons (dS_asg (K := K) (p := .nm 8) (ps_set (i := 8) sc_way_fault.nd rfl (.inl rfl) (dE_cl C_parts_fault (hr.mono (by omega)) (by rfl) (dA_cons (dE_var (μ := true) (pv 1)) (dA_cons (dE_var (μ := true) (pv 4)) (dA_nil (μ := true)))))))
  (dSs_cons (dS_if (dT_cmp o_isnot (dE_var (μ := true) (pv 8)) (dE_c (μ := true) pe_non) (nomark _))
    (dSs_one (dS_ret (ps_ret (dE_cl C_fault_below (hr.mono (by omega)) (by rfl) (dA_cons (dE_tup (dA_cons (dE_c (μ := true) pe_int) (dA_nil (μ := true)))) (dA_cons (dE_var (μ := true) (pv 8)) (dA_nil (μ := true))))))))
    dSs_nil)
  (dSs_cons (dS_if (dT_cmp (o_nin (u65 hr)) (dE_var (μ := true) (pv 5)) (dE_tup (dA_cons (dE_c (μ := true) pe_str) (dA_cons (dE_c (μ := true) pe_str) (dA_nil (μ := true))))) (by rfl))
    (dSs_one (dS_ret (ps_ret (dE_tup (dA_cons (dE_tup (dA_cons (dE_c (μ := true) pe_int) (dA_nil (μ := true)))) (dA_cons (dE_c (μ := true) pe_str) (dA_nil (μ := true))))))))
    dSs_nil)
  (dSs_cons (dS_if (dT_not (dT_val (dE_cl C_is_hours (hr.mono (by omega)) (by rfl) (dA_cons (dE_var (μ := true) (pv 0)) (dA_cons (dE_var (μ := true) (pv 6)) (dA_nil (μ := true)))))))
    (dSs_one (dS_ret (ps_ret (dE_tup (dA_cons (dE_tup (dA_cons (dE_c (μ := true) pe_int) (dA_nil (μ := true)))) (dA_cons (dE_c (μ := true) pe_str) (dA_nil (μ := true))))))))
    dSs_nil)
  (dSs_cons (dS_if (dT_not (dT_val (dE_cl C_is_number_from (hr.mono (by omega)) (by rfl) (dA_cons (dE_var (μ := true) (pv 7)) (dA_cons (dE_c (μ := true) pe_int) (dA_cons (dE_c (μ := true) (pe_glob (v := .int 6) (by rfl) g_WAIT ⟨_, rfl⟩)) (dA_nil (μ := true))))))))
    (dSs_one (dS_ret (ps_ret (dE_tup (dA_cons (dE_tup (dA_cons (dE_c (μ := true) pe_int) (dA_nil (μ := true)))) (dA_cons (dE_c (μ := true) pe_str) (dA_nil (μ := true))))))))
    dSs_nil)
  (dSs_one (dS_ret (ps_ret (dE_c (μ := true) pe_non)))))))))))), fun ds d l e => ?_⟩
  match ds, e with
  | [.int n, .tuple ks, x], e =>
    obtain ⟨ok, rfl⟩ := iteS e
    have ok := Bool.and_eq_true_iff.mp ok
    refine ⟨.rt (wayF n ks x), ?_, rfl⟩
    refine (ev_guard (b := !isRow 5 5 x) rfl rfl).trans ?_
    cases h0 : isRow 5 5 x with
    | false =>
      have : wayF n ks x = flt [] "way" := by
        unfold wayF
        split
        · cases h0
        · rfl
      rw [this]
      rfl
    | true =>
      obtain ⟨a, b, c, e', f', rfl⟩ := isRow_five h0
      have oa := okD.tup ok.2 a (by simp)
      have ob := okD.tup ok.2 b (by simp)
      have oc := okD.tup ok.2 c (by simp)
      refine (ev_asg rfl rfl).trans ?_
      refine (ev_guard (b := !kindIn ks a) (by show ((ninD a (.tuple ks)).bind bB) = _; rw [nin_tup oa ok.1]; rfl) rfl).trans ?_
      cases h1 : kindIn ks a with
      | false => simp only [wayF, h1]; rfl
      | true =>
        have ef : sPartsF [.tuple ks, b] = some (partsF ks b) := if_pos (by rw [ok.1, ob]; rfl)
        refine (ev_asg (d := partsF ks b) (ev_call rfl rfl ef) rfl).trans ?_
        rcases partsF_N ks b with ep | ⟨i, w', ep, lp⟩
        · rw [ep]
          refine (ev_if (b := false) rfl).trans ?_
          refine (show _ = _ from ev_nil).trans ?_
          refine (ev_guard (b := !keepsOk c) (by show ((ninD c (.tuple [S "oldest", S "youngest"])).bind bB) = _; rw [nin_tup oc (by decide +kernel)]; rfl) rfl).trans ?_
          cases h2 : keepsOk c with
          | false => simp only [wayF, h1, ep, h2]; rfl
          | true =>
            refine (ev_guard (b := !hoursOk n e') rfl rfl).trans ?_
            cases h3 : hoursOk n e' with
            | false => simp only [wayF, h1, ep, h2, h3]; rfl
            | true =>
              refine (ev_guard (b := !isFrom 1 6 f') rfl rfl).trans ?_
              cases h4 : isFrom 1 6 f' <;> (simp only [wayF, h1, ep, h2, h3, h4]; rfl)
        · rw [ep]
          refine (ev_if (b := true) rfl).trans ?_
          have eb : sBelow [.tuple [.int 1], .tuple [.tuple i, w']] = some (below [.int 1] (.tuple [.tuple i, w'])) := if_pos (show 1 + i.length ≤ sizeLine from sz (by omega))
          refine (ev_retS (ev_call rfl rfl eb)).trans ?_
          simp only [wayF, h1, ep]
          rfl
theorem ok_srcs {f : Addr} {fd : FuncData} {t1 : Tok} (F : Fun K "sources_fault" "sources_fault" s_sources_fault f fd) (g_SOURCES : mg "SOURCES" = some (.int 6 t1)) (m_enumerate : mg "enumerate" = none)
    (C_is_row : Cl P w K mg base 1 "is_row" ["thing", "fewest", "most"] (spD 3 sRow)) (C_source_fault : Cl P w K mg base 3 "source_fault" ["span", "kinds", "source"] (spD 3 sSrc)) (C_fault_below : Cl P w K mg base 1 "fault_below" ["path", "fault"] (spD 2 sBelow)) : FnOk P w K mg base CX0 4 f fd ["span", "kinds", "sources"] (spD 3 sSrcs) := by
  refine okFn F sc_sources_fault rfl fun cdv A outer s H E hr => ⟨_, (dSs_cons (dS_if (dT_not (dT_val (dE_cl C_is_row (hr.mono (by omega)) (by rfl) (dA_cons (dE_var (μ := true) (pv 2)) (dA_cons (dE_c (μ := true) pe_int) (dA_cons (dE_c (μ := true) (pe_glob (v := .int 6) (by rfl) g_SOURCES ⟨_, rfl⟩)) (dA_nil (μ := true))))))))
    (dSs_one (dS_ret (ps_ret (dE_tup (dA_cons (dE_tup (dA_cons (dE_c (μ := true) pe_int) (dA_nil (μ := true)))) (dA_cons (dE_c (μ := true) pe_str) (dA_nil (μ := true))))))))
    dSs_nil)
  (dSs_cons (dS_for (K := K) (p := (.tp (.cons (.nm 3) (.cons (.nm 4) .nil)))) (ps_for PassesOwn.never rfl (dI_enum (by rfl) m_enumerate (dA_cons (dE_var (μ := true) (pv 2)) (dA_nil (μ := true)))) (pg_tup (by rfl) (pgs_cons (pg_name (i := 3) sc_sources_fault.nd rfl (.inl rfl)) (pgs_cons (pg_name (i := 4) sc_sources_fault.nd rfl (.inl rfl)) pgs_nil)))
    (dSs_cons (dS_asg (K := K) (p := .nm 5) (ps_set (i := 5) sc_sources_fault.nd rfl (.inl rfl) (dE_cl C_source_fault (hr.mono (by omega)) (by rfl) (dA_cons (dE_var (μ := true) (pv 0)) (dA_cons (dE_var (μ := true) (pv 1)) (dA_cons (dE_var (μ := true) (pv 4)) (dA_nil (μ := true))))))))
  (dSs_one (dS_if (dT_cmp o_isnot (dE_var (μ := true) (pv 5)) (dE_c (μ := true) pe_non) (nomark _))
    (dSs_one (dS_ret (ps_ret (dE_cl C_fault_below (hr.mono (by omega)) (by rfl) (dA_cons (dE_tup (dA_cons (dE_c (μ := true) pe_int) (dA_cons (dE_var (μ := true) (pv 3)) (dA_nil (μ := true))))) (dA_cons (dE_var (μ := true) (pv 5)) (dA_nil (μ := true))))))))
    dSs_nil)))))
  (dSs_one (dS_ret (ps_ret (dE_c (μ := true) pe_non)))))), fun ds d l e => ?_⟩
  match ds, e with
  | [.int n, .tuple ks, x], e =>
    obtain ⟨ok, rfl⟩ := iteS e
    have ok := Bool.and_eq_true_iff.mp ok
    refine ⟨.rt (srcsF n ks x), ?_, rfl⟩
    refine (ev_guard (b := !isRow 0 6 x) rfl rfl).trans ?_
    cases h0 : isRow 0 6 x with
    | false =>
      have : srcsF n ks x = flt [2] "sources" := by
        unfold srcsF
        split
        · rw [h0]; rfl
        · rfl
      rw [this]
      rfl
    | true =>
      obtain ⟨xs, rfl⟩ := isRow_tup h0
      have ep : srcsF n ks (.tuple xs) = firstF [.int 2] (srcF n ks) 0 xs := by simp only [srcsF, h0]; rfl
      rw [ep]
      refine ev_firstS (f := srcF n ks) (pre := [.int 2]) (fun ρ => ∃ a b c, ρ = [some (.dat (.int n)), some (.dat (.tuple ks)), some (.dat (.tuple xs)), a, b, c]) rfl ⟨_, _, _, rfl⟩ (fun k x ρ m i => ?_) (fun ρ i => by obtain ⟨a, b, c, rfl⟩ := i; rfl)
      obtain ⟨a, b, c, rfl⟩ := i
      refine ⟨_, rfl, ?_⟩
      have ox := okD.tup ok.2 x m
      have ef : sSrc [.int n, .tuple ks, x] = some (srcF n ks x) := if_pos (by rw [ok.1, ox]; rfl)
      by_cases hn : srcF n ks x = .none
      · exact .inl ⟨hn, _, ⟨_, _, _, rfl⟩, (ev_asg (d := .none) (ev_call rfl rfl (ef.trans (by rw [hn]))) rfl).trans rfl⟩
      · refine .inr ⟨hn, ?_⟩
        rcases srcF_N n ks x with e | ⟨i, w, e, l⟩
        · exact (hn e).elim
        · refine (ev_asg (d := .tuple [.tuple i, w]) (ev_call rfl rfl (ef.trans (by rw [e]))) rfl).trans ?_
          refine (ev_ifR (b := true) rfl).trans (ev_ret (ev_call rfl rfl ?_))
          rw [e]
          exact if_pos (show 2 + i.length ≤ sizeLine from sz (by omega))
theorem ok_ways {f : Addr} {fd : FuncData} {t1 : Tok} (F : Fun K "ways_fault" "ways_fault" s_ways_fault f fd) (g_WAYS : mg "WAYS" = some (.int 8 t1)) (m_enumerate : mg "enumerate" = none)
    (C_is_row : Cl P w K mg base 1 "is_row" ["thing", "fewest", "most"] (spD 3 sRow)) (C_way_fault : Cl P w K mg base 5 "way_fault" ["span", "kinds", "way"] (spD 3 sWay)) (C_fault_below : Cl P w K mg base 1 "fault_below" ["path", "fault"] (spD 2 sBelow)) : FnOk P w K mg base CX0 6 f fd ["span", "kinds", "ways"] (spD 3 sWays) := by
  refine okFn F sc_ways_fault rfl fun cdv A outer s H E hr => ⟨_, (dSs_cons (dS_if (dT_not (dT_val (dE_cl C_is_row (hr.mono (by omega)) (by rfl) (dA_cons (dE_var (μ := true) (pv 2)) (dA_cons (dE_c (μ := true) pe_int) (dA_cons (dE_c (μ := true) (pe_glob (v := .int 8) (by rfl) g_WAYS ⟨_, rfl⟩)) (dA_nil (μ := true))))))))
    (dSs_one (dS_ret (ps_ret (dE_tup (dA_cons (dE_tup (dA_cons (dE_c (μ := true) pe_int) (dA_nil (μ := true)))) (dA_cons (dE_c (μ := true) pe_str) (dA_nil (μ := true))))))))
    dSs_nil)
  (dSs_cons (dS_for (K := K) (p := (.tp (.cons (.nm 3) (.cons (.nm 4) .nil)))) (ps_for PassesOwn.never rfl (dI_enum (by rfl) m_enumerate (dA_cons (dE_var (μ := true) (pv 2)) (dA_nil (μ := true)))) (pg_tup (by rfl) (pgs_cons (pg_name (i := 3) sc_ways_fault.nd rfl (.inl rfl)) (pgs_cons (pg_name (i := 4) sc_ways_fault.nd rfl (.inl rfl)) pgs_nil)))
    (dSs_cons (dS_asg (K := K) (p := .nm 5) (ps_set (i := 5) sc_ways_fault.nd rfl (.inl rfl) (dE_cl C_way_fault (hr.mono (by omega)) (by rfl) (dA_cons (dE_var (μ := true) (pv 0)) (dA_cons (dE_var (μ := true) (pv 1)) (dA_cons (dE_var (μ := true) (pv 4)) (dA_nil (μ := true))))))))
  (dSs_one (dS_if (dT_cmp o_isnot (dE_var (μ := true) (pv 5)) (dE_c (μ := true) pe_non) (nomark _))
    (dSs_one (dS_ret (ps_ret (dE_cl C_fault_below (hr.mono (by omega)) (by rfl) (dA_cons (dE_tup (dA_cons (dE_c (μ := true) pe_int) (dA_cons (dE_var (μ := true) (pv 3)) (dA_nil (μ := true))))) (dA_cons (dE_var (μ := true) (pv 5)) (dA_nil (μ := true))))))))
    dSs_nil)))))
  (dSs_one (dS_ret (ps_ret (dE_c (μ := true) pe_non)))))), fun ds d l e => ?_⟩
  match ds, e with
  | [.int n, .tuple ks, x], e =>
    obtain ⟨ok, rfl⟩ := iteS e
    have ok := Bool.and_eq_true_iff.mp ok
    refine ⟨.rt (waysF n ks x), ?_, rfl⟩
    refine (ev_guard (b := !isRow 0 8 x) rfl rfl).trans ?_
    cases h0 : isRow 0 8 x with
    | false =>
      have : waysF n ks x = flt [3] "ways" := by
        unfold waysF
        split
        · rw [h0]; rfl
        · rfl
      rw [this]
      rfl
    | true =>
      obtain ⟨xs, rfl⟩ := isRow_tup h0
      have ep : waysF n ks (.tuple xs) = firstF [.int 3] (wayF n ks) 0 xs := by simp only [waysF, h0]; rfl
      rw [ep]
      refine ev_firstS (f := wayF n ks) (pre := [.int 3]) (fun ρ => ∃ a b c, ρ = [some (.dat (.int n)), some (.dat (.tuple ks)), some (.dat (.tuple xs)), a, b, c]) rfl ⟨_, _, _, rfl⟩ (fun k x ρ m i => ?_) (fun ρ i => by obtain ⟨a, b, c, rfl⟩ := i; rfl)
      obtain ⟨a, b, c, rfl⟩ := i
      refine ⟨_, rfl, ?_⟩
      have ox := okD.tup ok.2 x m
      have ef : sWay [.int n, .tuple ks, x] = some (wayF n ks x) := if_pos (by rw [ok.1, ox]; rfl)
      by_cases hn : wayF n ks x = .none
      · exact .inl ⟨hn, _, ⟨_, _, _, rfl⟩, (ev_asg (d := .none) (ev_call rfl rfl (ef.trans (by rw [hn]))) rfl).trans rfl⟩
      · refine .inr ⟨hn, ?_⟩
        rcases wayF_N n ks x with e | ⟨i, w, e, l⟩
        · exact (hn e).elim
        · refine (ev_asg (d := .tuple [.tuple i, w]) (ev_call rfl rfl (ef.trans (by rw [e]))) rfl).trans ?_
          refine (ev_ifR (b := true) rfl).trans (ev_ret (ev_call rfl rfl ?_))
          rw [e]
          exact if_pos (show 2 + i.length ≤ sizeLine from sz (by omega))
theorem orT_F {f g : EF} {ρ : Rho} {a b : D} {n : Nat} (hf : f ρ = some a) (ha : FltN n a) (hg : a = .none → g ρ = some b) : eOrT f g ρ = some (orF a b) := by
  unfold eOrT
  rw [hf]
  rcases ha with rfl | ⟨i, w, rfl, _⟩
  · exact hg rfl
  · rfl
theorem kindsF_N (d : D) : FltN 2 (kindsF d) := by
  unfold kindsF
  split
  · split
    · exact fltN (by decide)
    · rename_i ds _
      have : ∀ (xs : List D) (k : Nat), FltN 2 (orN (firstG (gK ds) k xs)) := by
        intro xs
        induction xs with
        | nil => intro k; exact .inl rfl
        | cons x xs ih =>
          intro k
          cases e : gK ds k x with
          | none => rw [firstG_no e]; exact ih _
          | some d =>
            rw [firstG_yes e]
            unfold gK at e
            split at e
            · cases e; exact fltN (by simp)
            · cases e
      exact this _ _
  · exact fltN (by decide)
theorem srcsF_N (n : Int) (ks : List D) (d : D) : FltN 10 (srcsF n ks d) := by
  unfold srcsF
  split
  · split
    · exact fltN (by decide)
    · exact firstF_N (n := 1) (srcF_N n ks) (by simp) _ _
  · exact fltN (by decide)
theorem isRow_four {d : D} (h : isRow 4 4 d = true) : ∃ a b c e, d = .tuple [a, b, c, e] := by
  cases d <;> try (cases h; done)
  rename_i ds
  have : ds.length = 4 := by
    simp [isRow] at h
    omega
  match ds, this with
  | [a, b, c, e], _ => exact ⟨a, b, c, e, rfl⟩
theorem kindsF_tup {d : D} (h : kindsF d = .none) : ∃ ks, d = .tuple ks := by
  cases d <;> first | exact ⟨_, rfl⟩ | (cases h; done)
theorem ok_worldF {f : Addr} {fd : FuncData} {t1 : Tok} (F : Fun K "worldfault" "worldfault" s_worldfault f fd) (g_ROUND : mg "ROUND" = some (.int 6 t1))
    (C_is_row : Cl P w K mg base 1 "is_row" ["thing", "fewest", "most"] (spD 3 sRow)) (C_is_number_from : Cl P w K mg base 2 "is_number_from" ["thing", "low", "high"] (spD 3 sFrom)) (C_kinds_fault : Cl P w K mg base 2 "kinds_fault" ["kinds"] (spD 1 sKindsF)) (C_sources_fault : Cl P w K mg base 4 "sources_fault" ["span", "kinds", "sources"] (spD 3 sSrcs)) (C_ways_fault : Cl P w K mg base 6 "ways_fault" ["span", "kinds", "ways"] (spD 3 sWays)) : FnOk P w K mg base CX0 7 f fd ["thing"] (spD 1 sWorldF) := by
  refine okFn F sc_worldfault rfl fun cdv A outer s H E hr => ⟨_, (dSs_cons (dS_if (dT_not (dT_val (dE_cl C_is_row (hr.mono (by omega)) (by rfl) (dA_cons (dE_var (μ := true) (pv 0)) (dA_cons (dE_c (μ := true) pe_int) (dA_cons (dE_c (μ := true) pe_int) (dA_nil (μ := true))))))))
    (dSs_one (dS_ret (ps_ret (dE_tup (dA_cons (dE_tup (dA_nil (μ := true))) (dA_cons (dE_c (μ := true) pe_str) (dA_nil (μ := true))))))))
    dSs_nil)
  (dSs_cons (dS_asg (K := K) (p := (.tp (.cons (.nm 1) (.cons (.nm 2) (.cons (.nm 3) (.cons (.nm 4) .nil)))))) (ps_asg (dE_var (μ := true) (pv 0)) (pg_tup (by rfl) (pgs_cons (pg_name (i := 1) sc_worldfault.nd rfl (.inl rfl)) (pgs_cons (pg_name (i := 2) sc_worldfault.nd rfl (.inl rfl)) (pgs_cons (pg_name (i := 3) sc_worldfault.nd rfl (.inl rfl)) (pgs_cons (pg_name (i := 4) sc_worldfault.nd rfl (.inl rfl)) pgs_nil)))))))
  (dSs_cons (dS_if (dT_not (dT_val (dE_cl C_is_number_from (hr.mono (by omega)) (by rfl) (dA_cons (dE_var (μ := true) (pv 1)) (dA_cons (dE_c (μ := true) pe_int) (dA_cons (dE_c (μ := true) (pe_glob (v := .int 6) (by rfl) g_ROUND ⟨_, rfl⟩)) (dA_nil (μ := true))))))))
    (dSs_one (dS_ret (ps_ret (dE_tup (dA_cons (dE_tup (dA_cons (dE_c (μ := true) pe_int) (dA_nil (μ := true)))) (dA_cons (dE_c (μ := true) pe_str) (dA_nil (μ := true))))))))
    dSs_nil)
  (dSs_one (dS_ret (ps_ret (dE_orT (dE_cl C_kinds_fault (hr.mono (by omega)) (by rfl) (dA_cons (dE_var (μ := true) (pv 2)) (dA_nil (μ := true)))) (dE_orT (dE_cl C_sources_fault (hr.mono (by omega)) (by rfl) (dA_cons (dE_var (μ := true) (pv 1)) (dA_cons (dE_var (μ := true) (pv 2)) (dA_cons (dE_var (μ := true) (pv 3)) (dA_nil (μ := true)))))) (dE_one (dE_cl C_ways_fault (hr.mono (by omega)) (by rfl) (dA_cons (dE_var (μ := true) (pv 1)) (dA_cons (dE_var (μ := true) (pv 2)) (dA_cons (dE_var (μ := true) (pv 4)) (dA_nil (μ := true))))))))))))))), fun ds d l e => ?_⟩
  match ds, e with
  | [x], e =>
    obtain ⟨ok, rfl⟩ := iteS e
    refine ⟨.rt (worldF x), ?_, rfl⟩
    refine (ev_guard (b := !isRow 4 4 x) rfl rfl).trans ?_
    cases h0 : isRow 4 4 x with
    | false =>
      have : worldF x = flt [] "world" := by
        unfold worldF
        split
        · cases h0
        · cases h0
        · rfl
      rw [this]
      rfl
    | true =>
      obtain ⟨a, b, c, e', rfl⟩ := isRow_four h0
      have ob := okD.tup ok b (by simp)
      have oc := okD.tup ok c (by simp)
      have oe := okD.tup ok e' (by simp)
      refine (ev_asg rfl rfl).trans ?_
      refine (ev_guard (b := !isFrom 1 6 a) rfl rfl).trans ?_
      cases h1 : isFrom 1 6 a with
      | false =>
        have : worldF (.tuple [a, b, c, e']) = flt [0] "round" := by
          unfold worldF
          split
          · rename_i e1; cases e1; rw [h1]; rfl
          · rename_i e1; cases e1; rw [h1]; rfl
          · rename_i e1; exact (e1 _ _ _ _ rfl).elim
        rw [this]
        rfl
      | true =>
        obtain ⟨n, rfl⟩ := isFrom_int h1
        by_cases hb : ∃ ks, b = .tuple ks
        · obtain ⟨ks, rfl⟩ := hb
          have ew : worldF (.tuple [.int n, .tuple ks, c, e']) = orF (kindsF (.tuple ks)) (orF (srcsF n ks c) (waysF n ks e')) := by simp only [worldF, h1]; rfl
          rw [ew]
          have es : sSrcs [.int n, .tuple ks, c] = some (srcsF n ks c) := if_pos (by rw [ob, oc]; rfl)
          have ey : sWays [.int n, .tuple ks, e'] = some (waysF n ks e') := if_pos (by rw [ob, oe]; rfl)
          exact ev_ret (orT_F rfl (kindsF_N _) fun _ => orT_F (ev_call rfl rfl es) (srcsF_N n ks c) fun _ => ev_call rfl rfl ey)
        · have hk : kindsF b ≠ .none := fun z => hb (kindsF_tup z)
          have ew : worldF (.tuple [.int n, b, c, e']) = kindsF b := by
            cases b <;> first | exact (hb ⟨_, rfl⟩).elim | (simp only [worldF, h1]; rfl)
          rw [ew]
          refine ev_ret ((orT_F (b := .none) (a := kindsF b) rfl (kindsF_N _) fun z => (hk z).elim).trans ?_)
          unfold orF
          split
          · rename_i z; exact (hk z).elim
          · rfl
end
end Dx
namespace Dl
open PySem PySem.Spec PyProof.Rows L2 Rt
/-! ### texts in order -/
theorem lt_cps : ∀ a b : List Nat, ltCps a b = decide (a < b)
  | [], [] => by simp [ltCps]
  | _ :: _, [] => by simp [ltCps]
  | [], b :: t => by simp [ltCps]
  | a :: r, b :: t => by
    show (decide (a < b) || (a == b && ltCps r t)) = _
    rw [lt_cps r t]
    rw [Bool.eq_iff_iff]
    simp [List.cons_lt_cons_iff]
theorem ls_tri : ∀ a b : List Nat, ¬ b < a → a ≠ b → a < b
  | [], [], _, h => (h rfl).elim
  | [], _ :: _, _, _ => List.nil_lt_cons _ _
  | _ :: _, [], h, _ => (h (List.nil_lt_cons _ _)).elim
  | a :: r, b :: t, h, hn => by
    rw [List.cons_lt_cons_iff] at h ⊢
    rcases Nat.lt_trichotomy a b with q | q | q
    · exact .inl q
    · subst q
      exact .inr ⟨rfl, ls_tri r t (fun w => h (.inr ⟨rfl, w⟩)) fun w => hn (by rw [w])⟩
    · exact (h (.inl q)).elim
theorem ls_tr : ∀ a b c : List Nat, a < b → b < c → a < c
  | a, [], _, h, _ => (List.not_lt_nil _ h).elim
  | a, _ :: _, [], _, h => (List.not_lt_nil _ h).elim
  | [], _ :: _, _ :: _, _, _ => List.nil_lt_cons _ _
  | a :: r, b :: t, c :: u, h1, h2 => by
    rw [List.cons_lt_cons_iff] at h1 h2 ⊢
    rcases h1 with h1 | ⟨rfl, h1⟩
    · rcases h2 with h2 | ⟨rfl, h2⟩
      · exact .inl (Nat.lt_trans h1 h2)
      · exact .inl h1
    · rcases h2 with h2 | ⟨rfl, h2⟩
      · exact .inl h2
      · exact .inr ⟨rfl, ls_tr r t u h1 h2⟩
def StrLt (a b : Str) : Prop := a.cps.toList < b.cps.toList
theorem rs_pw : ∀ (r : List Str) (p : Str), risingS p r = true → (p :: r).Nodup → (p :: r).Pairwise StrLt
  | [], p, _, _ => List.pairwise_singleton ..
  | x :: r, p, h, hn => by
    have h := Bool.and_eq_true_iff.mp (show (!ltCps x.cps.toList p.cps.toList && risingS x r) = true from h)
    have h1 : ¬ x.cps.toList < p.cps.toList := by
      have := h.1
      rw [lt_cps] at this
      simpa using this
    have nd := List.nodup_cons.mp hn
    have ne : p.cps.toList ≠ x.cps.toList := fun e => nd.1 (by rw [show p = x from Str.ext' (Array.toList_inj.mp e)]; exact List.mem_cons_self ..)
    have px := ls_tri _ _ h1 ne
    have ih := rs_pw r x h.2 nd.2
    refine List.pairwise_cons.mpr ⟨fun y hy => ?_, ih⟩
    rcases List.mem_cons.mp hy with rfl | hy
    · exact px
    · exact ls_tr _ _ _ px ((List.pairwise_cons.mp ih).1 y hy)
theorem srt_pw : ∀ {ys : List Str}, sortedS ys = true → ys.Nodup → ys.Pairwise StrLt
  | [], _, _ => .nil
  | x :: r, h, hn => rs_pw r x h hn
theorem let_nd : LET.Nodup := by decide +kernel
theorem let_lt : ∀ c ∈ LET, c < 1114112 := by decide +kernel
theorem let_len : LET.length = 26 := by decide +kernel
theorem tl_cut_to (z : Str) {j : Nat} (h : j ≤ z.length) : (cutS z none (some (j : Int))).cps.toList = z.cps.toList.take j := by
  unfold cutS
  have hz : z.cps.toList.length = z.length := Array.length_toList
  simp only [HT.sIx_none, HT.sIx_nat, Nat.min_eq_left h, List.drop_zero, Nat.sub_zero]
theorem tl_cut_fr (z : Str) {j : Nat} (h : j ≤ z.length) : (cutS z (some (j : Int)) none).cps.toList = z.cps.toList.drop j := by
  unfold cutS
  have hz : z.cps.toList.length = z.length := Array.length_toList
  simp only [HT.sIx_none, HT.sIx_nat, Nat.min_eq_left h]
  exact List.take_of_length_le (by rw [List.length_drop]; omega)
theorem tl_nm (z : Str) {j : Nat} (h : j ≤ z.length) (c : Nat) : (nmS z (j : Int) c).cps.toList = z.cps.toList.take j ++ [c] ++ z.cps.toList.drop j := by
  unfold nmS
  rw [s_app, s_app, tl_cut_to z h, tl_cut_fr z h]
  rfl
theorem nm_good {z : Str} {j : Nat} {c : Nat} (h : j ≤ z.length) (h7 : z.length ≤ 7) (hz : ∀ d ∈ z.cps.toList, d ∈ LET) (hc : c ∈ LET) : NmG (nmS z (j : Int) c) := by
  have e := tl_nm z h c
  have ln : (nmS z (j : Int) c).length = z.length + 1 := by
    rw [s_len, e, List.length_append, List.length_append, List.length_take, List.length_drop]
    have hz : z.cps.toList.length = z.length := Array.length_toList
    rw [hz]
    show min j z.length + 1 + _ = _
    omega
  refine ⟨by omega, by omega, fun d hd => ?_⟩
  rw [e] at hd
  rcases List.mem_append.mp hd with hd | hd
  · rcases List.mem_append.mp hd with hd | hd
    · exact hz d (List.mem_of_mem_take hd)
    · rw [List.mem_singleton.mp hd]; exact hc
  · exact hz d (List.mem_of_mem_drop hd)
theorem nm_inj {z : Str} {j : Nat} {c d : Nat} (h : j ≤ z.length) (e : nmS z (j : Int) c = nmS z (j : Int) d) : c = d := by
  have e1 := congrArg (fun s : Str => s.cps.toList) e
  have e1 : (nmS z (j : Int) c).cps.toList = (nmS z (j : Int) d).cps.toList := e1
  rw [tl_nm z h, tl_nm z h] at e1
  have e2 := List.append_inj_left' e1 rfl
  have e3 := List.append_inj_right' e2 rfl
  exact List.singleton_inj.mp e3
theorem ok_of_let {z : Str} (h : ∀ c ∈ z.cps.toList, c ∈ LET) : PyData.strOk z = true := strOk_iff.mpr fun c hc => let_lt c (h c hc)
/-! ### what is drawn -/
structure NmS (zs : List Str) : Prop where
  l1 : 1 ≤ zs.length
  l4 : zs.length ≤ 4
  g : ∀ z ∈ zs, NmG z
  r : zs.Pairwise fun a b => a.cps.toList < b.cps.toList
def gNames : GF := gAny 14 (fun ds => ∃ m : Int, ds = [.int m] ∧ 1 ≤ m ∧ m ≤ 4) (fun _ d => ∃ zs : List Str, d = .tuple (zs.map .str) ∧ NmS zs)
def gSource : GF := gAny 9 (fun ds => ∃ (n : Int) (zs : List Str) (s : Int), ds = [.int n, .tuple (zs.map .str), .int s] ∧ NmS zs ∧ 1 ≤ n ∧ n ≤ 6 ∧ 1 ≤ s ∧ s ≤ 1000001) (fun ds d => ∃ (n : Int) (zs : List Str) (s : Int) (x : Sr), ds = [.int n, .tuple (zs.map .str), .int s] ∧ d = x.d ∧ x.ok n zs)
def gPart : GF := gAny 8 (fun ds => ∃ zs : List Str, ds = [.tuple (zs.map .str)] ∧ NmS zs) (fun ds d => ∃ (zs : List Str) (x : Pt), ds = [.tuple (zs.map .str)] ∧ d = x.d ∧ x.ok zs)
def gWay : GF := gAny 40 (fun ds => ∃ (n : Int) (zs : List Str), ds = [.int n, .tuple (zs.map .str)] ∧ NmS zs ∧ 1 ≤ n ∧ n ≤ 6) (fun ds d => ∃ (n : Int) (zs : List Str) (x : Wy), ds = [.int n, .tuple (zs.map .str)] ∧ d = x.d ∧ x.ok n zs)
def gWorld : GF := gAny 400 (fun ds => ∃ s : Int, ds = [.int s] ∧ 1 ≤ s ∧ s ≤ 1000001) (fun _ d => ∃ X : Wd, d = X.d ∧ X.ok)
def LETS : Str := Str.ofString "abcdefghijklmnopqrstuvwxyz"
theorem lets_list : LETS.cps.toList = LET := rfl
section
variable {P : Program} {w : World} {K : PySem.W.Frag} {mg : Str → Option Value} {base : Heap}
theorem ok_names {f : Addr} {fd : FuncData} (F : Fun K "_law_names" "_law_names" s_law_names f fd) (m_range : mg "range" = none) (m_len : mg "len" = none) (m_sorted : mg "sorted" = none) (m_tuple : mg "tuple" = none) (m_list : mg "list" = none) (C__law_next : Cl P w K mg base 1 "_law_next" ["_law_drawn", "_law_many"] (spN 1 gNext)) : FnOk P w K mg base CX0 2 f fd ["_law_drawn", "_law_many"] (spN 1 gNames) := by
  refine okFnN F sc_law_names rfl fun cdv A outer s H E hr => ⟨_, (nSs_cons (nS_own (ps_set (i := 2) sc_law_names.nd rfl (.inr rfl) (nN_pure (oE_listS rfl (by rfl) m_list (by decide +kernel) (dE_c (μ := true) pe_str)))))
  (nSs_cons (nS_asg (K := K) (p := .nm 3) (ps_set (i := 3) sc_law_names.nd rfl (.inr rfl) (nE_lend (i := 2) (nE_join pe_str (nE_lc (K := K) (p := (.nm 5)) (pe_lc (own := [("_law_k", 5)]) (g := gP K (.nm 5)) rfl sc_law_names.nd (nI_ran1 (by rfl) m_range (nA_cons (nE_draw C__law_next (hr.mono (by omega)) (by rfl) (pv 0) (nA_cons (nE_pure (dE_c (μ := true) pe_int)) nA_nil)) nA_nil)) (blkOk_by (own := [("_law_k", 5)]) (N := ["_law_drawn", "_law_many", "_law_left", "_law_stem", "_law_at", "_law_k"]) (sc := defScope s_law_names) (by decide +kernel)) (fun _ _ _ _ _ => (pg_name (i := 5) sc_law_names.nd rfl (.inl rfl))) (fun _ _ _ _ _ => nTs_nil) (fun _ _ _ _ _ => (nE_ix (nE_pure (dE_var (μ := true) (pv 2))) (nE_draw C__law_next (hr.mono (by omega)) (by rfl) (pv 0) (nA_cons (nE_pure (dE_c (μ := true) pe_int)) nA_nil))))))))))
  (nSs_cons (nS_asg (K := K) (p := .nm 4) (ps_set (i := 4) sc_law_names.nd rfl (.inr rfl) (nE_draw C__law_next (hr.mono (by omega)) (by rfl) (pv 0) (nA_cons (nE_pure (dE_op o_add (dE_callB c_len (by rfl) m_len (by decide +kernel) (dA_cons (dE_var (μ := true) (pv 3)) (dA_nil (μ := true)))) (dE_c (μ := true) pe_int))) nA_nil))))
  (nSs_one (nS_nm rfl (ps_ret (pe_callTy c_tuple (by rfl) m_tuple (by decide +kernel) (pa_cons (pe_callB cr_sortedS (by rfl) m_sorted (by decide +kernel) (pa_cons (pe_lc (own := [("_law_k", 5)]) (g := gP K (.nm 5)) rfl sc_law_names.nd (nI_pure (dI_ran1 (by rfl) m_range (dA_cons (dE_var (μ := true) (pv 1)) (dA_nil (μ := true))))) (blkOk_by (own := [("_law_k", 5)]) (N := ["_law_drawn", "_law_many", "_law_left", "_law_stem", "_law_at", "_law_k"]) (sc := defScope s_law_names) (by decide +kernel)) (fun _ _ _ _ _ => (pg_name (i := 5) sc_law_names.nd rfl (.inl rfl))) (fun _ _ _ _ _ => nTs_nil) (fun _ _ _ _ _ => (pe_op o_addX (pe_op o_addX (nE_pure (dE_slX (dE_var (μ := true) (pv 3)) dO_none (dO_some (dE_var (μ := true) (pv 4))))) (pe_bm PySem.F.plainAttrs_list PySem.F.slot_list_pop PySem.F.type_list_pop mt_popAt (pv 2) (nA_cons (nE_draw C__law_next (hr.mono (by omega)) (by rfl) (pv 0) (nA_cons (nE_pure (dE_callB c_len (by rfl) m_len (by decide +kernel) (dA_cons (dE_var (μ := true) (pv 2)) (dA_nil (μ := true))))) nA_nil)) nA_nil))) (nE_pure (dE_slX (dE_var (μ := true) (pv 3)) (dO_some (dE_var (μ := true) (pv 4))) dO_none))))) pa_nil)) pa_nil)))))))), fun ds b Q l h => ?_⟩
  obtain ⟨⟨m, rfl, m1, m4⟩, hb, q⟩ := h
  let R : Option LV → Option LV → Rho := fun x y => [some .pool, some (.dat (.int m)), some (.own (LET.map chD)), x, y, none]
  refine ⟨.list (LET.map chD), rfl, LET.map chD, rfl, by show 2 < 6; decide, ?_⟩
  refine ⟨LET.map chD, rfl, wNext (m := 8) rfl rfl (by decide) (by decide) (by omega) fun v b1 v0 v1 h1 => ⟨[.int v], rfl, rgD 0 v.toNat, ran1_ok (by omega) (by omega), ?_⟩⟩
  have lv : (rgD 0 v.toNat).length = v.toNat := rgD_len _ _
  refine lcN_all 1 (fun d => ∃ c : Nat, d = chD c ∧ c ∈ LET) (rgD 0 v.toNat) b1 _ (by rw [lv]; omega) (fun x hx b Q hb q => ?_) (fun r b2 lr hr h2 => ?_)
  · obtain ⟨i, _, rfl⟩ := List.mem_map.mp hx
    refine ⟨_, rfl, .list (LET.map chD), rfl, wNext (m := 26) rfl rfl (by decide) (by decide) hb fun u n' u0 u1 hn => ?_⟩
    obtain ⟨c, hc, cm, _⟩ := atI_in (xs := LET.map chD) u0 (by rw [List.length_map, let_len]; exact u1)
    obtain ⟨c, cm2, rfl⟩ := List.mem_map.mp cm
    exact ⟨chD c, hc, q _ n' ⟨c, rfl, cm2⟩ hn⟩
  obtain ⟨cs, rfl, hcs⟩ := cho (f := chD) hr
  rw [lv] at lr h2
  rw [List.length_map] at lr
  obtain ⟨z, hz⟩ : ∃ z : Str, z = ⟨cs.toArray⟩ := ⟨_, rfl⟩
  have zl : z.length = cs.length := by rw [hz]; show cs.toArray.size = _; rw [List.size_toArray]
  have zc : z.cps.toList = cs := by rw [hz]
  refine ⟨.str z, ?_, ⟨z, rfl⟩, R (some (.dat (.str z))) none, rfl, ?_⟩
  · show (chrsD (cs.map fun c => PyData.str ⟨#[c]⟩)).bind _ = _
    rw [chrsD.map, hz]
    exact if_pos (by omega)
  refine wNext (m := (z.length : Int) + 1) rfl rfl (by omega) (by omega) (by omega) fun at' b3 a0 a1 h3 => ⟨R (some (.dat (.str z))) (some (.dat (.int at'))), rfl, ?_⟩
  obtain ⟨j, rfl⟩ : ∃ j : Nat, at' = j := ⟨at'.toNat, by omega⟩
  refine ⟨m, LET, z, j, rfl, by omega, by omega, by rw [let_len]; omega, by omega, by rw [let_len]; decide, by omega, fun cs' => ⟨rfl, rfl, fun b Q p1 p2 hb q => ?_⟩, fun dd rest ys b4 ld perm h4 py srt => ?_⟩
  · refine wNext (m := ((cs'.map chD).length : Nat)) rfl rfl (by rw [List.length_map]; omega) (by rw [List.length_map]; omega) hb fun v n' v0 v1 hn => ⟨_, rfl, q v n' v0 (by rw [List.length_map] at v1; exact v1) hn⟩
  have nd : (dd ++ rest).Nodup := perm.nodup_iff.mpr let_nd
  have ddn : dd.Nodup := (List.nodup_append.mp nd).1
  have jz : j ≤ z.length := by omega
  have hzl : ∀ d ∈ z.cps.toList, d ∈ LET := fun d hd => hcs d (by rw [zc] at hd; exact hd)
  have ndY : ys.Nodup := py.nodup_iff.mpr (List.Pairwise.map (nmS z j) (fun a b (h : a ≠ b) e => h (nm_inj jz e)) ddn)
  have ly : ys.length = m.toNat := by rw [py.length_eq, List.length_map, ld]
  refine q _ b4 ⟨ys, rfl, by omega, by omega, fun y hy => ?_, srt_pw srt ndY⟩ (by omega)
  obtain ⟨c, hc, rfl⟩ := List.mem_map.mp (py.mem_iff.mp hy)
  exact nm_good jz (by omega) hzl (perm.mem_iff.mp (List.mem_append_left _ hc))
end
end Dl
namespace Dl
open PySem PySem.Spec PyProof.Rows L2 Rt
section
variable {P : Program} {w : World} {K : PySem.W.Frag} {mg : Str → Option Value} {base : Heap}
theorem ok_source {f : Addr} {fd : FuncData} (F : Fun K "_law_source" "_law_source" s_law_source f fd) (m_len : mg "len" = none) (C__law_next : Cl P w K mg base 1 "_law_next" ["_law_drawn", "_law_many"] (spN 1 gNext)) : FnOk P w K mg base CX0 2 f fd ["_law_drawn", "_law_size", "_law_kinds", "_law_late"] (spN 3 gSource) := by
  refine okFnN F sc_law_source rfl fun cdv A outer s H E hr => ⟨_, (nSs_cons (nS_asg (K := K) (p := .nm 4) (ps_set (i := 4) sc_law_source.nd rfl (.inl rfl) (nE_ix (nE_lst (nA_cons (nE_pure (dE_c (μ := true) pe_int)) (nA_cons (nE_draw C__law_next (hr.mono (by omega)) (by rfl) (pv 0) (nA_cons (nE_pure (dE_c (μ := true) pe_int)) nA_nil)) (nA_cons (nE_draw C__law_next (hr.mono (by omega)) (by rfl) (pv 0) (nA_cons (nE_pure (dE_c (μ := true) pe_int)) nA_nil)) nA_nil)))) (nE_draw C__law_next (hr.mono (by omega)) (by rfl) (pv 0) (nA_cons (nE_pure (dE_c (μ := true) pe_int)) nA_nil)))))
  (nSs_cons (nS_asg (K := K) (p := .nm 5) (ps_set (i := 5) sc_law_source.nd rfl (.inl rfl) (nE_ix (nE_lst (nA_cons (nE_pure (dE_c (μ := true) pe_int)) (nA_cons (nE_draw C__law_next (hr.mono (by omega)) (by rfl) (pv 0) (nA_cons (nE_pure (dE_c (μ := true) pe_int)) nA_nil)) (nA_cons (nE_draw C__law_next (hr.mono (by omega)) (by rfl) (pv 0) (nA_cons (nE_pure (dE_var (μ := true) (pv 3))) nA_nil)) nA_nil)))) (nE_draw C__law_next (hr.mono (by omega)) (by rfl) (pv 0) (nA_cons (nE_pure (dE_c (μ := true) pe_int)) nA_nil)))))
  (nSs_one (nS_ret (ps_ret (nE_tup (nA_cons (nE_ix (nE_pure (dE_var (μ := true) (pv 2))) (nE_draw C__law_next (hr.mono (by omega)) (by rfl) (pv 0) (nA_cons (nE_pure (dE_callB c_len (by rfl) m_len (by decide +kernel) (dA_cons (dE_var (μ := true) (pv 2)) (dA_nil (μ := true))))) nA_nil))) (nA_cons (nE_pure (dE_var (μ := true) (pv 4))) (nA_cons (nE_draw C__law_next (hr.mono (by omega)) (by rfl) (pv 0) (nA_cons (nE_pure (dE_var (μ := true) (pv 1))) nA_nil)) (nA_cons (nE_pure (dE_var (μ := true) (pv 5))) (nA_cons (nE_op o_add (nE_pure (dE_c (μ := true) pe_int)) (nE_draw C__law_next (hr.mono (by omega)) (by rfl) (pv 0) (nA_cons (nE_pure (dE_c (μ := true) pe_int)) nA_nil))) nA_nil))))))))))), fun ds b Q l h => ?_⟩
  obtain ⟨⟨n, zs, sn, rfl, ⟨k1, k4, hz, hr⟩, n1, n6, s0, s1⟩, hb, q⟩ := h
  have kl : (zs.map PyData.str).length = zs.length := List.length_map ..
  refine ⟨.int 0, rfl, wNext (m := 5) rfl rfl (by decide) (by decide) (by omega) fun v1 b1 v10 v11 h1 => wNext (m := 21) rfl rfl (by decide) (by decide) (by omega) fun v2 b2 v20 v21 h2 => ⟨_, rfl, _, rfl, _, rfl, _, rfl, wNext (m := 3) rfl rfl (by decide) (by decide) (by omega) fun v3 b3 v30 v31 h3 => ?_⟩⟩
  obtain ⟨x, ex, xs⟩ := lst3 (a := PyData.int 0) (b := .int v1) (c := .int v2) v30 v31
  obtain ⟨ag, rfl, a0, a1⟩ : ∃ a : Int, x = .int a ∧ 0 ≤ a ∧ a ≤ 20 := by
    rcases xs with rfl | rfl | rfl
    · exact ⟨_, rfl, by decide, by decide⟩
    · exact ⟨_, rfl, by omega, by omega⟩
    · exact ⟨_, rfl, by omega, by omega⟩
  let R : Option LV → Option LV → Rho := fun x y => [some .pool, some (.dat (.int n)), some (.dat (.tuple (zs.map .str))), some (.dat (.int sn)), x, y]
  refine ⟨_, ex, R (some (.dat (.int ag))) none, rfl, ?_⟩
  refine ⟨.int 0, rfl, wNext (m := 9) rfl rfl (by decide) (by decide) (by omega) fun v4 b4 v40 v41 h4 => wNext (m := sn) rfl rfl (by omega) (by omega) (by omega) fun v5 b5 v50 v51 h5 => ⟨_, rfl, _, rfl, _, rfl, _, rfl, wNext (m := 3) rfl rfl (by decide) (by decide) (by omega) fun v6 b6 v60 v61 h6 => ?_⟩⟩
  obtain ⟨y, ey, ys⟩ := lst3 (a := PyData.int 0) (b := .int v4) (c := .int v5) v60 v61
  obtain ⟨bg, rfl, g0, g1⟩ : ∃ a : Int, y = .int a ∧ 0 ≤ a ∧ a ≤ 1000000 := by
    rcases ys with rfl | rfl | rfl
    · exact ⟨_, rfl, by decide, by decide⟩
    · exact ⟨_, rfl, by omega, by omega⟩
    · exact ⟨_, rfl, by omega, by omega⟩
  refine ⟨_, ey, R (some (.dat (.int ag))) (some (.dat (.int bg))), rfl, ?_⟩
  refine ⟨.tuple (zs.map .str), rfl, wNext (m := (zs.map PyData.str).length) rfl rfl (by omega) (by omega) (by omega) fun v7 b7 v70 v71 h7 => ?_⟩
  obtain ⟨j, rfl⟩ : ∃ j : Nat, v7 = j := ⟨v7.toNat, by omega⟩
  obtain ⟨z, hzj⟩ : ∃ z, zs[j]? = some z := ⟨_, List.getElem?_eq_getElem (by omega)⟩
  refine ⟨.str z, at_map hzj, .int ag, rfl, wNext (m := n) rfl rfl (by omega) (by omega) (by omega) fun v8 b8 v80 v81 h8 => ⟨.int bg, rfl, .int 1, rfl, wNext (m := 9) rfl rfl (by decide) (by decide) (by omega) fun v9 b9 v90 v91 h9 => ⟨_, rfl, _, rfl, _, rfl, _, rfl, _, rfl, _, rfl, _, rfl, ?_⟩⟩⟩
  exact q _ b9 ⟨n, zs, sn, ⟨z, ag, v8, bg, 1 + v9⟩, rfl, rfl, ⟨List.mem_of_getElem? hzj, a0, a1, v80, v81, g0, g1, by show 1 ≤ 1 + v9; omega, by show 1 + v9 ≤ 9; omega⟩⟩ (by omega)
theorem ok_part {f : Addr} {fd : FuncData} (F : Fun K "_law_part" "_law_part" s_law_part f fd) (m_min : mg "min" = none) (m_len : mg "len" = none) (C__law_next : Cl P w K mg base 1 "_law_next" ["_law_drawn", "_law_many"] (spN 1 gNext)) : FnOk P w K mg base CX0 2 f fd ["_law_drawn", "_law_kinds"] (spN 1 gPart) := by
  refine okFnN F sc_law_part rfl fun cdv A outer s H E hr => ⟨_, (nSs_cons (nS_asg (K := K) (p := .nm 2) (ps_set (i := 2) sc_law_part.nd rfl (.inl rfl) (nE_ix (nE_lst (nA_cons (nE_pure (dE_c (μ := true) pe_int)) (nA_cons (nE_draw C__law_next (hr.mono (by omega)) (by rfl) (pv 0) (nA_cons (nE_pure (dE_c (μ := true) pe_int)) nA_nil)) (nA_cons (nE_draw C__law_next (hr.mono (by omega)) (by rfl) (pv 0) (nA_cons (nE_pure (dE_c (μ := true) pe_int)) nA_nil)) (nA_cons (nE_draw C__law_next (hr.mono (by omega)) (by rfl) (pv 0) (nA_cons (nE_pure (dE_c (μ := true) pe_int)) nA_nil)) nA_nil))))) (nE_draw C__law_next (hr.mono (by omega)) (by rfl) (pv 0) (nA_cons (nE_pure (dE_c (μ := true) pe_int)) nA_nil)))))
  (nSs_cons (nS_asg (K := K) (p := .nm 3) (ps_set (i := 3) sc_law_part.nd rfl (.inl rfl) (nE_ix (nE_lst (nA_cons (nE_draw C__law_next (hr.mono (by omega)) (by rfl) (pv 0) (nA_cons (nE_pure (dE_c (μ := true) pe_int)) nA_nil)) (nA_cons (nE_draw C__law_next (hr.mono (by omega)) (by rfl) (pv 0) (nA_cons (nE_pure (dE_c (μ := true) pe_int)) nA_nil)) (nA_cons (nE_pure (dE_c (μ := true) pe_int)) nA_nil)))) (nE_draw C__law_next (hr.mono (by omega)) (by rfl) (pv 0) (nA_cons (nE_pure (dE_c (μ := true) pe_int)) nA_nil)))))
  (nSs_one (nS_ret (ps_ret (nE_tup (nA_cons (nE_ix (nE_pure (dE_var (μ := true) (pv 1))) (nE_draw C__law_next (hr.mono (by omega)) (by rfl) (pv 0) (nA_cons (nE_pure (dE_callB c_len (by rfl) m_len (by decide +kernel) (dA_cons (dE_var (μ := true) (pv 1)) (dA_nil (μ := true))))) nA_nil))) (nA_cons (nE_pure (dE_var (μ := true) (pv 2))) (nA_cons (nE_pure (dE_callB (c_min2 rfl) (by rfl) m_min (by decide +kernel) (dA_cons (dE_c (μ := true) pe_int) (dA_cons (dE_op o_add (dE_var (μ := true) (pv 2)) (dE_var (μ := true) (pv 3))) (dA_nil (μ := true)))))) nA_nil))))))))), fun ds b Q l h => ?_⟩
  obtain ⟨⟨zs, rfl, k1, k4, hz, hr⟩, hb, q⟩ := h
  have kl : (zs.map PyData.str).length = zs.length := List.length_map ..
  refine ⟨.int 0, rfl, wNext (m := 4) rfl rfl (by decide) (by decide) (by omega) fun v1 b1 v10 v11 h1 => wNext (m := 12) rfl rfl (by decide) (by decide) (by omega) fun v2 b2 v20 v21 h2 => wNext (m := 21) rfl rfl (by decide) (by decide) (by omega) fun v0 b0 v00 v01 h0 => ⟨_, rfl, _, rfl, _, rfl, _, rfl, _, rfl, wNext (m := 4) rfl rfl (by decide) (by decide) (by omega) fun v3 b3 v30 v31 h3 => ?_⟩⟩
  obtain ⟨x, ex, xs⟩ := lst4 (a := PyData.int 0) (b := .int v1) (c := .int v2) (d := .int v0) v30 v31
  obtain ⟨lo, rfl, a0, a1⟩ : ∃ a : Int, x = .int a ∧ 0 ≤ a ∧ a ≤ 20 := by
    rcases xs with rfl | rfl | rfl | rfl
    · exact ⟨_, rfl, by decide, by decide⟩
    · exact ⟨_, rfl, by omega, by omega⟩
    · exact ⟨_, rfl, by omega, by omega⟩
    · exact ⟨_, rfl, by omega, by omega⟩
  let R : Option LV → Option LV → Rho := fun x y => [some .pool, some (.dat (.tuple (zs.map .str))), x, y]
  refine ⟨_, ex, R (some (.dat (.int lo))) none, rfl, ?_⟩
  refine wNext (m := 3) rfl rfl (by decide) (by decide) (by omega) fun v4 b4 v40 v41 h4 => wNext (m := 9) rfl rfl (by decide) (by decide) (by omega) fun v5 b5 v50 v51 h5 => ⟨.int 20, rfl, _, rfl, _, rfl, _, rfl, _, rfl, wNext (m := 3) rfl rfl (by decide) (by decide) (by omega) fun v6 b6 v60 v61 h6 => ?_⟩
  obtain ⟨y, ey, ys⟩ := lst3 (a := PyData.int v4) (b := .int v5) (c := .int 20) v60 v61
  obtain ⟨mo, rfl, g0⟩ : ∃ a : Int, y = .int a ∧ 0 ≤ a := by
    rcases ys with rfl | rfl | rfl
    · exact ⟨_, rfl, v40⟩
    · exact ⟨_, rfl, v50⟩
    · exact ⟨_, rfl, by decide⟩
  refine ⟨_, ey, R (some (.dat (.int lo))) (some (.dat (.int mo))), rfl, ?_⟩
  let hi : Int := if lo + mo < 20 then lo + mo else 20
  refine ⟨.tuple (zs.map .str), rfl, wNext (m := (zs.map PyData.str).length) rfl rfl (by omega) (by omega) (by omega) fun v7 b7 v70 v71 h7 => ?_⟩
  obtain ⟨j, rfl⟩ : ∃ j : Nat, v7 = j := ⟨v7.toNat, by omega⟩
  obtain ⟨z, hzj⟩ : ∃ z, zs[j]? = some z := ⟨_, List.getElem?_eq_getElem (by omega)⟩
  refine ⟨.str z, at_map hzj, .int lo, rfl, .int hi, rfl, _, rfl, _, rfl, _, rfl, _, rfl, ?_⟩
  have hb1 : lo ≤ hi ∧ hi ≤ 20 := by
    show lo ≤ (if lo + mo < 20 then lo + mo else 20) ∧ (if lo + mo < 20 then lo + mo else 20) ≤ 20
    split <;> omega
  exact q _ b7 ⟨zs, ⟨z, lo, hi⟩, rfl, rfl, ⟨List.mem_of_getElem? hzj, a0, hb1.1, hb1.2⟩⟩ (by omega)
theorem ok_way {f : Addr} {fd : FuncData} (F : Fun K "_law_way" "_law_way" s_law_way f fd) (m_range : mg "range" = none) (m_tuple : mg "tuple" = none) (m_len : mg "len" = none) (C__law_next : Cl P w K mg base 1 "_law_next" ["_law_drawn", "_law_many"] (spN 1 gNext)) (C__law_part : Cl P w K mg base 2 "_law_part" ["_law_drawn", "_law_kinds"] (spN 1 gPart)) : FnOk P w K mg base CX0 3 f fd ["_law_drawn", "_law_size", "_law_kinds"] (spN 2 gWay) := by
  refine okFnN F sc_law_way rfl fun cdv A outer s H E hr => ⟨_, (nSs_cons (nS_asg (K := K) (p := .nm 3) (ps_set (i := 3) sc_law_way.nd rfl (.inl rfl) (nE_callTy c_tuple (by rfl) m_tuple (by decide +kernel) (nA_cons (nE_lc (K := K) (p := (.nm 6)) (pe_lc (own := [("_law_k", 6)]) (g := gP K (.nm 6)) rfl sc_law_way.nd (nI_ran1 (by rfl) m_range (nA_cons (nE_op o_add (nE_pure (dE_c (μ := true) pe_int)) (nE_draw C__law_next (hr.mono (by omega)) (by rfl) (pv 0) (nA_cons (nE_pure (dE_c (μ := true) pe_int)) nA_nil))) nA_nil)) (blkOk_by (own := [("_law_k", 6)]) (N := ["_law_drawn", "_law_size", "_law_kinds", "_law_parts", "_law_hours", "_law_keeps", "_law_k", "_law_place"]) (sc := defScope s_law_way) (by decide +kernel)) (fun _ _ _ _ _ => (pg_name (i := 6) sc_law_way.nd rfl (.inl rfl))) (fun _ _ _ _ _ => nTs_nil) (fun _ _ _ _ _ => (nE_draw C__law_part (hr.mono (by omega)) (by rfl) (pv 0) (nA_cons (nE_pure (dE_var (μ := true) (pv 2))) nA_nil))))) nA_nil))))
  (nSs_cons (nS_asg (K := K) (p := .nm 4) (ps_set (i := 4) sc_law_way.nd rfl (.inl rfl) (nE_callTy c_tuple (by rfl) m_tuple (by decide +kernel) (nA_cons (nE_lc (K := K) (p := (.nm 7)) (pe_lc (own := [("_law_place", 7)]) (g := gP K (.nm 7)) rfl sc_law_way.nd (nI_pure (dI_ran1 (by rfl) m_range (dA_cons (dE_var (μ := true) (pv 1)) (dA_nil (μ := true))))) (blkOk_by (own := [("_law_place", 7)]) (N := ["_law_drawn", "_law_size", "_law_kinds", "_law_parts", "_law_hours", "_law_keeps", "_law_k", "_law_place"]) (sc := defScope s_law_way) (by decide +kernel)) (fun _ _ _ _ _ => (pg_name (i := 7) sc_law_way.nd rfl (.inl rfl))) (fun _ _ _ _ _ => (pts_one (nT_cmp o_gt (nE_draw C__law_next (hr.mono (by omega)) (by rfl) (pv 0) (nA_cons (nE_pure (dE_c (μ := true) pe_int)) nA_nil)) (nE_pure (dE_c (μ := true) pe_int)) (nomark _)))) (fun _ _ _ _ _ => (nE_pure (dE_var (μ := true) (pv 7)))))) nA_nil))))
  (nSs_cons (nS_asg (K := K) (p := .nm 5) (ps_set (i := 5) sc_law_way.nd rfl (.inl rfl) (nE_ix (nE_pure (dE_lst (dA_cons (dE_c (μ := true) pe_str) (dA_cons (dE_c (μ := true) pe_str) (dA_nil (μ := true)))))) (nE_draw C__law_next (hr.mono (by omega)) (by rfl) (pv 0) (nA_cons (nE_pure (dE_c (μ := true) pe_int)) nA_nil)))))
  (nSs_one (nS_ret (ps_ret (nE_tup (nA_cons (nE_ix (nE_pure (dE_var (μ := true) (pv 2))) (nE_draw C__law_next (hr.mono (by omega)) (by rfl) (pv 0) (nA_cons (nE_pure (dE_callB c_len (by rfl) m_len (by decide +kernel) (dA_cons (dE_var (μ := true) (pv 2)) (dA_nil (μ := true))))) nA_nil))) (nA_cons (nE_pure (dE_var (μ := true) (pv 3))) (nA_cons (nE_pure (dE_var (μ := true) (pv 5))) (nA_cons (nE_pure (dE_var (μ := true) (pv 4))) (nA_cons (nE_op o_add (nE_pure (dE_c (μ := true) pe_int)) (nE_draw C__law_next (hr.mono (by omega)) (by rfl) (pv 0) (nA_cons (nE_pure (dE_c (μ := true) pe_int)) nA_nil))) nA_nil)))))))))))), fun ds b Q l h => ?_⟩
  obtain ⟨⟨n, zs, rfl, hZ, n1, n6⟩, hb, q⟩ := h
  have hZ' := hZ
  obtain ⟨k1, k4, hz, hr⟩ := hZ'
  have kl : (zs.map PyData.str).length = zs.length := List.length_map ..
  refine ⟨.int 1, rfl, wNext (m := 3) rfl rfl (by decide) (by decide) (by omega) fun v1 b1 v10 v11 h1 => ?_⟩
  obtain ⟨m, hm⟩ : ∃ m : Int, m = 1 + v1 := ⟨_, rfl⟩
  refine ⟨.int m, by rw [hm]; rfl, _, rfl, rgD 0 m.toNat, ran1_ok (by omega) (by omega), ?_⟩
  have lm : (rgD 0 m.toNat).length = m.toNat := rgD_len _ _
  refine lcN_all 8 (fun d => ∃ p : Pt, d = p.d ∧ p.ok zs) (rgD 0 m.toNat) b1 _ (by rw [lm]; omega) (fun x hx b Q hb q => ?_) (fun ps b2 lp hp h2 => ?_)
  · obtain ⟨i, _, rfl⟩ := List.mem_map.mp hx
    refine ⟨_, rfl, rfl, .tuple (zs.map .str), rfl, _, rfl, rfl, ⟨zs, rfl, hZ⟩, hb, fun d n' ⟨zs', x, e, ed, ok⟩ hn => ?_⟩
    injection e with e _
    cases tup_inj str_i e
    exact q d n' ⟨x, ed, ok⟩ hn
  obtain ⟨Ps, rfl, hP⟩ := cho hp
  rw [lm] at lp h2
  rw [List.length_map] at lp
  let R : Option LV → Option LV → Rho := fun x y => [some .pool, some (.dat (.int n)), some (.dat (.tuple (zs.map .str))), some (.dat (.tuple (Ps.map Pt.d))), x, y, none, none]
  refine ⟨_, rfl, .tuple (Ps.map Pt.d), rfl, R none none, rfl, ?_⟩
  refine ⟨rgD 0 n.toNat, ev_itG (ds := [.int n]) rfl (ran1_ok (by omega) (by omega)), ?_⟩
  have ln : (rgD 0 n.toNat).length = n.toNat := rgD_len _ _
  refine lcN_some (by show 7 < 8; decide) 1 (rgD 0 n.toNat) b2 _ (by rw [ln]; omega) (fun x hx b Q hb q => ?_) (fun r b3 hs h3 => ?_) (fun x => rfl)
  · exact wNext (m := 4) rfl rfl (by decide) (by decide) hb fun v n' v0 v1 hn => ⟨.int 0, rfl, _, rfl, _, rfl, q _ n' hn⟩
  rw [ln] at h3
  obtain ⟨hs', hsub, rfl⟩ : ∃ hs' : List Int, hs'.Sublist (rgI 0 n.toNat) ∧ r = hs'.map PyData.int := by
    rw [rgD_I] at hs
    exact List.sublist_map_iff.mp hs
  have hl : hs'.length ≤ n.toNat := by
    have := hsub.length_le
    unfold rgI at this
    rwa [List.length_map, List.length_range] at this
  have ha : hs'.Pairwise (· < ·) := (rgI_asc 0 n.toNat).sublist hsub
  have hh : ∀ x ∈ hs', 0 ≤ x ∧ x < n := fun x hx => by
    obtain ⟨i, hi, rfl⟩ := List.mem_map.mp (hsub.subset hx)
    have := List.mem_range.mp hi
    omega
  refine ⟨_, rfl, .tuple (hs'.map PyData.int), rfl, R (some (.dat (.tuple (hs'.map PyData.int)))) none, rfl, ?_⟩
  refine ⟨.list [S "oldest", S "youngest"], rfl, wNext (m := 2) rfl rfl (by decide) (by decide) (by omega) fun v4 b4 v40 v41 h4 => ?_⟩
  obtain ⟨kp, ekp, hkp⟩ : ∃ kp : Str, L2.atI [S "oldest", S "youngest"] v4 = some (.str kp) ∧ (kp = Str.ofString "oldest" ∨ kp = Str.ofString "youngest") := by
    have : v4 = 0 ∨ v4 = 1 := by omega
    rcases this with rfl | rfl
    · exact ⟨_, rfl, .inl rfl⟩
    · exact ⟨_, rfl, .inr rfl⟩
  refine ⟨.str kp, ekp, R (some (.dat (.tuple (hs'.map PyData.int)))) (some (.dat (.str kp))), rfl, ?_⟩
  refine ⟨.tuple (zs.map .str), rfl, wNext (m := (zs.map PyData.str).length) rfl rfl (by omega) (by omega) (by omega) fun v5 b5 v50 v51 h5 => ?_⟩
  obtain ⟨j, rfl⟩ : ∃ j : Nat, v5 = j := ⟨v5.toNat, by omega⟩
  obtain ⟨z, hzj⟩ : ∃ z, zs[j]? = some z := ⟨_, List.getElem?_eq_getElem (by omega)⟩
  refine ⟨.str z, at_map hzj, .tuple (Ps.map Pt.d), rfl, .str kp, rfl, .tuple (hs'.map PyData.int), rfl, .int 1, rfl, wNext (m := 6) rfl rfl (by decide) (by decide) (by omega) fun v7 b7 v70 v71 h7 => ?_⟩
  refine ⟨_, rfl, _, rfl, _, rfl, _, rfl, _, rfl, _, rfl, _, rfl, ?_⟩
  exact q _ b7 ⟨n, zs, ⟨z, Ps, kp, hs', 1 + v7⟩, rfl, rfl, ⟨List.mem_of_getElem? hzj, hP, by show 1 ≤ Ps.length; omega, by show Ps.length ≤ 3; omega, hkp, hh, by show hs'.length ≤ 6; omega, ha, by show 1 ≤ 1 + v7; omega, by show 1 + v7 ≤ 6; omega⟩⟩ (by omega)
theorem ok_world {f : Addr} {fd : FuncData} (F : Fun K "_law_world" "_law_world" s_law_world f fd) (m_range : mg "range" = none) (m_tuple : mg "tuple" = none) (C__law_next : Cl P w K mg base 1 "_law_next" ["_law_drawn", "_law_many"] (spN 1 gNext)) (C__law_names : Cl P w K mg base 2 "_law_names" ["_law_drawn", "_law_many"] (spN 1 gNames)) (C__law_source : Cl P w K mg base 2 "_law_source" ["_law_drawn", "_law_size", "_law_kinds", "_law_late"] (spN 3 gSource)) (C__law_way : Cl P w K mg base 3 "_law_way" ["_law_drawn", "_law_size", "_law_kinds"] (spN 2 gWay)) : FnOk P w K mg base CX0 4 f fd ["_law_drawn", "_law_late"] (spN 1 gWorld) := by
  refine okFnN F sc_law_world rfl fun cdv A outer s H E hr => ⟨_, (nSs_cons (nS_asg (K := K) (p := .nm 2) (ps_set (i := 2) sc_law_world.nd rfl (.inr rfl) (nE_op o_add (nE_pure (dE_c (μ := true) pe_int)) (nE_draw C__law_next (hr.mono (by omega)) (by rfl) (pv 0) (nA_cons (nE_pure (dE_c (μ := true) pe_int)) nA_nil)))))
  (nSs_cons (nS_asg (K := K) (p := .nm 3) (ps_set (i := 3) sc_law_world.nd rfl (.inr rfl) (nE_draw C__law_names (hr.mono (by omega)) (by rfl) (pv 0) (nA_cons (nE_op o_add (nE_pure (dE_c (μ := true) pe_int)) (nE_draw C__law_next (hr.mono (by omega)) (by rfl) (pv 0) (nA_cons (nE_pure (dE_c (μ := true) pe_int)) nA_nil))) nA_nil))))
  (nSs_cons (nS_asg (K := K) (p := .nm 4) (ps_set (i := 4) sc_law_world.nd rfl (.inl rfl) (nE_ix (nE_lst (nA_cons (nE_draw C__law_next (hr.mono (by omega)) (by rfl) (pv 0) (nA_cons (nE_pure (dE_c (μ := true) pe_int)) nA_nil)) (nA_cons (nE_op o_add (nE_pure (dE_c (μ := true) pe_int)) (nE_draw C__law_next (hr.mono (by omega)) (by rfl) (pv 0) (nA_cons (nE_pure (dE_c (μ := true) pe_int)) nA_nil))) nA_nil))) (nE_draw C__law_next (hr.mono (by omega)) (by rfl) (pv 0) (nA_cons (nE_pure (dE_c (μ := true) pe_int)) nA_nil)))))
  (nSs_cons (nS_asg (K := K) (p := .nm 5) (ps_set (i := 5) sc_law_world.nd rfl (.inl rfl) (nE_callTy c_tuple (by rfl) m_tuple (by decide +kernel) (nA_cons (nE_lc (K := K) (p := (.nm 7)) (pe_lc (own := [("_law_k", 7)]) (g := gP K (.nm 7)) rfl sc_law_world.nd (nI_pure (dI_ran1 (by rfl) m_range (dA_cons (dE_var (μ := true) (pv 4)) (dA_nil (μ := true))))) (blkOk_by (own := [("_law_k", 7)]) (N := ["_law_drawn", "_law_late", "_law_size", "_law_kinds", "_law_many", "_law_sources", "_law_ways", "_law_k"]) (sc := defScope s_law_world) (by decide +kernel)) (fun _ _ _ _ _ => (pg_name (i := 7) sc_law_world.nd rfl (.inl rfl))) (fun _ _ _ _ _ => nTs_nil) (fun _ _ _ _ _ => (nE_draw C__law_source (hr.mono (by omega)) (by rfl) (pv 0) (nA_cons (nE_pure (dE_var (μ := true) (pv 2))) (nA_cons (nE_pure (dE_var (μ := true) (pv 3))) (nA_cons (nE_pure (dE_var (μ := true) (pv 1))) nA_nil))))))) nA_nil))))
  (nSs_cons (nS_asg (K := K) (p := .nm 6) (ps_set (i := 6) sc_law_world.nd rfl (.inl rfl) (nE_callTy c_tuple (by rfl) m_tuple (by decide +kernel) (nA_cons (nE_lc (K := K) (p := (.nm 7)) (pe_lc (own := [("_law_k", 7)]) (g := gP K (.nm 7)) rfl sc_law_world.nd (nI_ran1 (by rfl) m_range (nA_cons (nE_ix (nE_lst (nA_cons (nE_draw C__law_next (hr.mono (by omega)) (by rfl) (pv 0) (nA_cons (nE_pure (dE_c (μ := true) pe_int)) nA_nil)) (nA_cons (nE_pure (dE_c (μ := true) pe_int)) nA_nil))) (nE_draw C__law_next (hr.mono (by omega)) (by rfl) (pv 0) (nA_cons (nE_pure (dE_c (μ := true) pe_int)) nA_nil))) nA_nil)) (blkOk_by (own := [("_law_k", 7)]) (N := ["_law_drawn", "_law_late", "_law_size", "_law_kinds", "_law_many", "_law_sources", "_law_ways", "_law_k"]) (sc := defScope s_law_world) (by decide +kernel)) (fun _ _ _ _ _ => (pg_name (i := 7) sc_law_world.nd rfl (.inl rfl))) (fun _ _ _ _ _ => nTs_nil) (fun _ _ _ _ _ => (nE_draw C__law_way (hr.mono (by omega)) (by rfl) (pv 0) (nA_cons (nE_pure (dE_var (μ := true) (pv 2))) (nA_cons (nE_pure (dE_var (μ := true) (pv 3))) nA_nil)))))) nA_nil))))
  (nSs_one (nS_retL (ps_ret (dE_tup (dA_cons (dE_var (μ := true) (pv 2)) (dA_cons (dE_var (μ := true) (pv 3)) (dA_cons (dE_var (μ := true) (pv 5)) (dA_cons (dE_var (μ := true) (pv 6)) (dA_nil (μ := true))))))))))))))), fun ds b Q l h => ?_⟩
  obtain ⟨⟨sn, rfl, s0, s1⟩, hb, q⟩ := h
  refine ⟨.int 1, rfl, wNext (m := 6) rfl rfl (by decide) (by decide) (by omega) fun v0 b0 v00 v01 h0 => ?_⟩
  obtain ⟨n, hn⟩ : ∃ n : Int, n = 1 + v0 := ⟨_, rfl⟩
  let R : Option LV → Option LV → Option LV → Option LV → Rho := fun k x y u => [some .pool, some (.dat (.int sn)), some (.dat (.int n)), k, x, y, u, none]
  refine ⟨.int n, by rw [hn]; rfl, R none none none none, by rfl, ?_⟩
  refine ⟨rfl, .int 1, rfl, wNext (m := 4) rfl rfl (by decide) (by decide) (by omega) fun v1 b1 v10 v11 h1 => ⟨_, rfl, _, rfl, rfl, ⟨_, rfl, by omega, by omega⟩, by omega, fun d b2 ⟨zs, ed, hZ⟩ h2 => ?_⟩⟩
  subst ed
  refine ⟨R (some (.dat (.tuple (zs.map .str)))) none none none, rfl, ?_⟩
  refine wNext (m := 7) rfl rfl (by decide) (by decide) (by omega) fun v2 b3 v20 v21 h3 => ⟨.int 1, rfl, wNext (m := 3) rfl rfl (by decide) (by decide) (by omega) fun v3 b4 v30 v31 h4 => ⟨_, rfl, _, rfl, _, rfl, _, rfl, wNext (m := 2) rfl rfl (by decide) (by decide) (by omega) fun v4 b5 v40 v41 h5 => ?_⟩⟩
  obtain ⟨m1, em1, m10, m16⟩ : ∃ m : Int, L2.atI [PyData.int v2, .int (1 + v3)] v4 = some (.int m) ∧ 0 ≤ m ∧ m ≤ 6 := by
    have : v4 = 0 ∨ v4 = 1 := by omega
    rcases this with rfl | rfl
    · exact ⟨_, rfl, by omega, by omega⟩
    · exact ⟨_, rfl, by omega, by omega⟩
  refine ⟨_, em1, R (some (.dat (.tuple (zs.map .str)))) (some (.dat (.int m1))) none none, rfl, ?_⟩
  refine ⟨rgD 0 m1.toNat, ev_itG (ds := [.int m1]) rfl (ran1_ok (by omega) (by omega)), ?_⟩
  have lm : (rgD 0 m1.toNat).length = m1.toNat := rgD_len _ _
  refine lcN_all 9 (fun d => ∃ x : Sr, d = x.d ∧ x.ok n zs) (rgD 0 m1.toNat) b5 _ (by rw [lm]; omega) (fun x hx b Q hb q => ?_) (fun ss b6 ls hss h6 => ?_)
  · obtain ⟨i, _, rfl⟩ := List.mem_map.mp hx
    refine ⟨_, rfl, rfl, .int n, rfl, .tuple (zs.map .str), rfl, .int sn, rfl, _, rfl, _, rfl, _, rfl, rfl, ⟨n, zs, sn, rfl, hZ, by omega, by omega, s0, s1⟩, hb, fun d n' ⟨n2, zs', s', x, e, ed, ok⟩ hn => ?_⟩
    injection e with e1 e
    injection e with e2 e
    cases int_i e1
    cases tup_inj str_i e2
    exact q d n' ⟨x, ed, ok⟩ hn
  obtain ⟨Ss, rfl, hS⟩ := cho hss
  rw [lm] at ls h6
  rw [List.length_map] at ls
  refine ⟨_, rfl, .tuple (Ss.map Sr.d), rfl, R (some (.dat (.tuple (zs.map .str)))) (some (.dat (.int m1))) (some (.dat (.tuple (Ss.map Sr.d)))) none, rfl, ?_⟩
  refine wNext (m := 9) rfl rfl (by decide) (by decide) (by omega) fun v6 b7 v60 v61 h7 => ⟨_, rfl, _, rfl, _, rfl, _, rfl, wNext (m := 2) rfl rfl (by decide) (by decide) (by omega) fun v7 b8 v70 v71 h8 => ?_⟩
  obtain ⟨m2, em2, m20, m28⟩ : ∃ m : Int, L2.atI [PyData.int v6, .int 3] v7 = some (.int m) ∧ 0 ≤ m ∧ m ≤ 8 := by
    have : v7 = 0 ∨ v7 = 1 := by omega
    rcases this with rfl | rfl
    · exact ⟨_, rfl, by omega, by omega⟩
    · exact ⟨_, rfl, by omega, by omega⟩
  refine ⟨_, em2, _, rfl, rgD 0 m2.toNat, ran1_ok (by omega) (by omega), ?_⟩
  have lm2 : (rgD 0 m2.toNat).length = m2.toNat := rgD_len _ _
  refine lcN_all 40 (fun d => ∃ x : Wy, d = x.d ∧ x.ok n zs) (rgD 0 m2.toNat) b8 _ (by rw [lm2]; omega) (fun x hx b Q hb q => ?_) (fun ws b9 lw hws h9 => ?_)
  · obtain ⟨i, _, rfl⟩ := List.mem_map.mp hx
    refine ⟨_, rfl, rfl, .int n, rfl, .tuple (zs.map .str), rfl, _, rfl, _, rfl, rfl, ⟨n, zs, rfl, hZ, by omega, by omega⟩, hb, fun d n' ⟨n2, zs', x, e, ed, ok⟩ hn => ?_⟩
    injection e with e1 e
    injection e with e2 e
    cases int_i e1
    cases tup_inj str_i e2
    exact q d n' ⟨x, ed, ok⟩ hn
  obtain ⟨Ws, rfl, hW⟩ := cho hws
  rw [lm2] at lw h9
  rw [List.length_map] at lw
  refine ⟨_, rfl, .tuple (Ws.map Wy.d), rfl, R (some (.dat (.tuple (zs.map .str)))) (some (.dat (.int m1))) (some (.dat (.tuple (Ss.map Sr.d)))) (some (.dat (.tuple (Ws.map Wy.d)))), rfl, ?_⟩
  refine ⟨_, rfl, q _ b9 ⟨⟨n, zs, Ss, Ws⟩, rfl, ⟨by show 1 ≤ n; omega, by show n ≤ 6; omega, hZ.l1, hZ.l4, fun z hz => ?_, hZ.g, hZ.r, by show Ss.length ≤ 6; omega, hS, by show Ws.length ≤ 8; omega, hW⟩⟩ (by omega)⟩
  obtain ⟨g1, g8, gl⟩ := hZ.g z hz
  exact ⟨ok_of_let gl, by omega⟩
end
end Dl
namespace Dl
open PySem PySem.Spec PyProof.Rows L2 Rt TL
/-! ### texts of worlds -/
def T (l : List Nat) : Str := ⟨l.toArray⟩
theorem T_l (l : List Nat) : (T l).cps.toList = l := rfl
theorem T_e (z : Str) : T z.cps.toList = z := rfl
theorem T_len (l : List Nat) : (T l).length = l.length := by rw [s_len]; rfl
theorem str_ext {x y : Str} (h : x.cps.toList = y.cps.toList) : x = y := Str.ext' (Array.toList_inj.mp h)
def nL (i : Int) : List Nat := numL i.toNat
def num (i : Int) : Str := Str.ofString (toString i)
theorem num_T {i : Int} (h : 0 ≤ i) : num i = T (nL i) := by
  obtain ⟨n, rfl⟩ : ∃ n : Nat, i = n := ⟨i.toNat, by omega⟩
  exact str_ext (by show tl (Str.ofString (toString ((n : Nat) : Int))) = _; rw [tl_num]; rfl)
theorem c_sp : (Str.ofString " ").cps.toList = [32] := by decide +kernel
theorem c_co : (Str.ofString ",").cps.toList = [44] := by decide +kernel
theorem c_nl : (Str.ofString "\n").cps.toList = [10] := by decide +kernel
theorem c_ds : (Str.ofString "-").cps.toList = [45] := by decide +kernel
theorem c_src : (Str.ofString "source ").cps.toList = (Str.ofString "source").cps.toList ++ [32] := by decide +kernel
theorem c_way : (Str.ofString "way ").cps.toList = (Str.ofString "way").cps.toList ++ [32] := by decide +kernel
theorem c_rnd : (Str.ofString "round ").cps.toList = (Str.ofString "round").cps.toList ++ [32] := by decide +kernel
theorem nL_len {i : Int} (h1 : i ≤ 1000000) : (nL i).length ≤ 7 := numL_len (by decide) (by omega)
theorem nL_free {i : Int} {s : Nat} (h : s < 48 ∨ 57 < s) : s ∉ nL i := numL_free h
def cs (x : String) : List Nat := (Str.ofString x).cps.toList
def srcW (s : Sr) : List (List Nat) := [cs "source", s.k.cps.toList, nL s.a, nL s.p, nL s.s, nL s.m]
def hrW (hs : List Int) : List Nat := if hs = [] then [45] else joinL [44] (hs.map nL)
def prW (p : Pt) : List (List Nat) := [p.k.cps.toList, nL p.l, nL p.g]
def wyW (y : Wy) : List (List Nat) := [cs "way", y.k.cps.toList, y.kp.cps.toList, hrW y.hs, nL y.w] ++ y.ps.flatMap prW
def ln (ws : List (List Nat)) : Str := T (joinL [32] ws)
def lns (X : Wd) : List Str := ln [cs "round", nL X.n] :: ln (cs "kinds" :: X.ks.map fun z => z.cps.toList) :: (X.ss.map (fun s => ln (srcW s)) ++ X.ws.map fun y => ln (wyW y))
def txt (X : Wd) : Str := T (joinL [10] ((lns X).map fun z => z.cps.toList))
structure SrB (s : Sr) : Prop where
  k : NmG s.k
  b : ∀ i ∈ [s.a, s.p, s.s, s.m], 0 ≤ i ∧ i ≤ 1000000
structure PtB (p : Pt) : Prop where
  k : NmG p.k
  b : ∀ i ∈ [p.l, p.g], 0 ≤ i ∧ i ≤ 1000000
structure WyB (y : Wy) : Prop where
  k : NmG y.k
  kp : y.kp = Str.ofString "oldest" ∨ y.kp = Str.ofString "youngest"
  h : ∀ i ∈ y.hs, 0 ≤ i ∧ i ≤ 1000000
  hl : y.hs.length ≤ 6
  w : 0 ≤ y.w ∧ y.w ≤ 1000000
  p3 : y.ps.length ≤ 3
  p1 : 1 ≤ y.ps.length
  ps : ∀ p ∈ y.ps, PtB p
structure WdB (X : Wd) : Prop where
  n : 0 ≤ X.n ∧ X.n ≤ 1000000
  ks : ∀ z ∈ X.ks, NmG z
  k4 : X.ks.length ≤ 4
  s6 : X.ss.length ≤ 6
  ss : ∀ s ∈ X.ss, SrB s
  w8 : X.ws.length ≤ 8
  ws : ∀ y ∈ X.ws, WyB y
theorem wd_b {X : Wd} (h : X.ok) : WdB X := by
  have n6 := h.n6
  have n1 := h.n1
  refine ⟨⟨by omega, by omega⟩, h.kg, h.k4, h.sl, fun s hs => ?_, h.wl, fun y hy => ?_⟩
  · have o := h.ss s hs
    have := o.a0; have := o.a1; have := o.p0; have := o.p1; have := o.s0; have := o.s1; have := o.m0; have := o.m1
    refine ⟨h.kg _ o.k, fun i hi => ?_⟩
    simp only [List.mem_cons, List.not_mem_nil, or_false] at hi
    rcases hi with rfl | rfl | rfl | rfl <;> omega
  · have o := h.ws y hy
    have := o.w0; have := o.w1
    refine ⟨h.kg _ o.k, o.kp, fun i hi => ?_, o.hl, ⟨by omega, by omega⟩, o.p3, o.p1, fun p hp => ?_⟩
    · have := o.hs i hi
      omega
    · have q := o.ps p hp
      have := q.l0; have := q.lg; have := q.g1
      refine ⟨h.kg _ q.k, fun i hi => ?_⟩
      simp only [List.mem_cons, List.not_mem_nil, or_false] at hi
      rcases hi with rfl | rfl <;> omega
/-! lengths -/
theorem jl_len {S : List Nat} {B : Nat} : ∀ {ps : List (List Nat)}, (∀ p ∈ ps, p.length ≤ B) → (joinL S ps).length ≤ ps.length * (B + S.length)
  | [], _ => Nat.zero_le _
  | [p], h => by
    show p.length ≤ _
    have := h p (by simp)
    simp
    omega
  | p :: q :: r, h => by
    have a := h p (by simp)
    have b := jl_len (S := S) (ps := q :: r) fun x hx => h x (by simp [hx])
    show (p ++ (S ++ joinL S (q :: r))).length ≤ ((q :: r).length + 1) * (B + S.length)
    rw [List.length_append, List.length_append, Nat.add_mul, Nat.one_mul]
    omega
theorem nm_len {z : Str} (h : NmG z) : z.cps.toList.length ≤ 8 := by
  rw [← s_len]
  exact h.2.1
theorem kp_len {z : Str} (h : z = Str.ofString "oldest" ∨ z = Str.ofString "youngest") : z.cps.toList.length ≤ 8 := by
  rcases h with rfl | rfl <;> decide +kernel
theorem hr_len {hs : List Int} (h : ∀ i ∈ hs, 0 ≤ i ∧ i ≤ 1000000) (hl : hs.length ≤ 6) : (hrW hs).length ≤ 48 := by
  unfold hrW
  split
  · decide
  · refine Nat.le_trans (jl_len (B := 7) fun p hp => ?_) ?_
    · obtain ⟨i, hi, rfl⟩ := List.mem_map.mp hp
      exact nL_len (h i hi).2
    · rw [List.length_map]
      show hs.length * 8 ≤ 48
      omega
theorem src_len {s : Sr} (h : SrB s) : ∀ p ∈ srcW s, p.length ≤ 48 := fun p hp => by
  have e : (cs "source").length ≤ 48 := by decide +kernel
  have k := nm_len h.k
  have a := nL_len (h.b s.a (by simp)).2
  have b := nL_len (h.b s.p (by simp)).2
  have c := nL_len (h.b s.s (by simp)).2
  have d := nL_len (h.b s.m (by simp)).2
  unfold srcW at hp
  simp only [List.mem_cons, List.not_mem_nil, or_false] at hp
  rcases hp with rfl | rfl | rfl | rfl | rfl | rfl <;> omega
theorem wy_len {y : Wy} (h : WyB y) : (∀ p ∈ wyW y, p.length ≤ 48) ∧ (wyW y).length ≤ 14 := by
  refine ⟨fun p hp => ?_, ?_⟩
  · rcases List.mem_append.mp hp with hp | hp
    · have e : (cs "way").length ≤ 48 := by decide +kernel
      have k := nm_len h.k
      have a := kp_len h.kp
      have b := hr_len h.h h.hl
      have c := nL_len h.w.2
      simp only [List.mem_cons, List.not_mem_nil, or_false] at hp
      rcases hp with rfl | rfl | rfl | rfl | rfl <;> omega
    · obtain ⟨q, hq, hp⟩ := List.mem_flatMap.mp hp
      have g := h.ps q hq
      have k := nm_len g.k
      have a := nL_len (g.b q.l (by simp)).2
      have b := nL_len (g.b q.g (by simp)).2
      unfold prW at hp
      simp only [List.mem_cons, List.not_mem_nil, or_false] at hp
      rcases hp with rfl | rfl | rfl <;> omega
  · unfold wyW
    rw [List.length_append, List.length_flatMap]
    have : (y.ps.map fun p => (prW p).length) = y.ps.map fun _ => 3 := rfl
    rw [this, List.map_const', List.sum_replicate_nat]
    have := h.p3
    show 5 + y.ps.length * 3 ≤ 14
    omega
theorem ln_len {ws : List (List Nat)} {n : Nat} (h : ∀ p ∈ ws, p.length ≤ 48) (hn : ws.length ≤ n) : (ln ws).length ≤ n * 49 := by
  show (T _).length ≤ _
  rw [T_len]
  exact Nat.le_trans (jl_len h) (Nat.mul_le_mul_right _ hn)
/-! what an f-string tells -/
inductive JnV (ρ : Rho) : List EF → List Str → Prop
  | nil : JnV ρ [] []
  | cons {f : EF} {y : Str} {fs : List EF} {ys : List Str} : f ρ = some (.str y) → JnV ρ fs ys → JnV ρ (f :: fs) (y :: ys)
theorem jn_all {ρ : Rho} : ∀ {fs : List EF} {ys : List Str} {acc : Str}, JnV ρ fs ys → acc.length + (ys.map (·.length)).sum ≤ 10000 → jGo fs ρ acc = some (ys.foldl (· ++ ·) acc)
  | _, _, acc, .nil, _ => rfl
  | _, _, acc, .cons (f := f) (y := y) (fs := fs) (ys := ys) e r, h => by
    show (f ρ).bind _ = _
    rw [e]
    have h' : acc.length + (y.length + (ys.map (·.length)).sum) ≤ 10000 := by simpa using h
    have la : (acc ++ y).length = acc.length + y.length := Str.length_append ..
    show (if (acc ++ y).length ≤ sizeLine then jGo fs ρ (acc ++ y) else none) = _
    rw [if_pos (sz (by omega))]
    exact jn_all r (by omega)
theorem tl_fold : ∀ (ys : List Str) (acc : Str), (ys.foldl (· ++ ·) acc).cps.toList = acc.cps.toList ++ (ys.map fun y => y.cps.toList).flatten
  | [], acc => by simp
  | y :: ys, acc => by
    show (ys.foldl (· ++ ·) (acc ++ y)).cps.toList = _
    rw [tl_fold ys, s_app]
    simp
theorem ev_jn {ρ : Rho} {fs : List EF} {ys : List Str} {z : Str} (h : JnV ρ fs ys) (hz : (ys.map fun y => y.cps.toList).flatten = z.cps.toList) (hl : z.length ≤ 10000) : eJn fs ρ = some (.str z) := by
  have hs : (ys.map (·.length)).sum = z.length := by
    rw [s_len, ← hz, List.length_flatten, List.map_map]
    congr 1
  have hs' : Str.empty.length + (ys.map (·.length)).sum ≤ 10000 := by rw [hs]; show 0 + _ ≤ _; omega
  unfold eJn
  rw [jn_all h hs']
  show some (PyData.str (ys.foldl (· ++ ·) Str.empty)) = _
  rw [str_ext (x := ys.foldl (· ++ ·) Str.empty) (y := z) (by rw [tl_fold]; exact hz)]
theorem ev_fmtI {ρ : Rho} {f : EF} {i : Int} (h : f ρ = some (.int i)) (h0 : 0 ≤ i) (h1 : i ≤ 1000000) : e1 fmtD f ρ = some (.str (T (nL i))) := by
  unfold e1
  rw [h, ← num_T h0]
  show (if i.natAbs < 10 ^ 30 then _ else none) = _
  exact if_pos (by omega)
theorem ev_fmtS {ρ : Rho} {f : EF} {z : Str} (h : f ρ = some (.str z)) : e1 fmtD f ρ = some (.str z) := by
  unfold e1
  rw [h]
  rfl
def SSrcL : Sem Sr := ⟨fun s => [s.d], SrB, fun s => .str (ln (srcW s)), fun {x y} _ _ e => by
  injection e with e _
  rw [Sr.inj e]⟩
section
variable {P : Program} {w : World} {K : PySem.W.Frag} {mg : Str → Option Value} {base : Heap}
theorem ok_srcL {f : Addr} {fd : FuncData} (F : Fun K "source_line" "source_line" s_source_line f fd) : FnOk P w K mg base CX0 1 f fd ["source"] (spD 1 SSrcL.f) := by
  refine okFn F sc_source_line rfl fun cdv A outer s H E hr => ⟨_, (dSs_cons (dS_asg (K := K) (p := (.tp (.cons (.nm 1) (.cons (.nm 2) (.cons (.nm 3) (.cons (.nm 4) (.cons (.nm 5) .nil))))))) (ps_asg (dE_var (μ := true) (pv 0)) (pg_tup (by rfl) (pgs_cons (pg_name (i := 1) sc_source_line.nd rfl (.inl rfl)) (pgs_cons (pg_name (i := 2) sc_source_line.nd rfl (.inl rfl)) (pgs_cons (pg_name (i := 3) sc_source_line.nd rfl (.inl rfl)) (pgs_cons (pg_name (i := 4) sc_source_line.nd rfl (.inl rfl)) (pgs_cons (pg_name (i := 5) sc_source_line.nd rfl (.inl rfl)) pgs_nil))))))))
  (dSs_one (dS_ret (ps_ret (dE_joined (dJ_cons (dE_c (μ := true) pe_str) (dJ_cons (dE_fmt (dE_var (μ := true) (pv 1))) (dJ_cons (dE_c (μ := true) pe_str) (dJ_cons (dE_fmt (dE_var (μ := true) (pv 2))) (dJ_cons (dE_c (μ := true) pe_str) (dJ_cons (dE_fmt (dE_var (μ := true) (pv 3))) (dJ_cons (dE_c (μ := true) pe_str) (dJ_cons (dE_fmt (dE_var (μ := true) (pv 4))) (dJ_cons (dE_c (μ := true) pe_str) (dJ_cons (dE_fmt (dE_var (μ := true) (pv 5))) dJ_nil))))))))))))))), fun ds d l e => ?_⟩
  obtain ⟨x, hx, rfl, rfl⟩ := Sem.get e
  have a := hx.b x.a (by simp)
  have b := hx.b x.p (by simp)
  have c := hx.b x.s (by simp)
  have g := hx.b x.m (by simp)
  refine ⟨.rt (.str (ln (srcW x))), ?_, rfl⟩
  refine (ev_asg (ρ' := [some (.dat x.d), some (.dat (.str x.k)), some (.dat (.int x.a)), some (.dat (.int x.p)), some (.dat (.int x.s)), some (.dat (.int x.m))]) rfl rfl).trans (ev_ret ?_)
  refine ev_jn (.cons rfl (.cons (ev_fmtS rfl) (.cons rfl (.cons (ev_fmtI rfl a.1 a.2) (.cons rfl (.cons (ev_fmtI rfl b.1 b.2) (.cons rfl (.cons (ev_fmtI rfl c.1 c.2) (.cons rfl (.cons (ev_fmtI rfl g.1 g.2) .nil)))))))))) ?_ (Nat.le_trans (ln_len (n := 6) (src_len hx) (Nat.le_refl _)) (by decide))
  simp [ln, srcW, T_l, joinL, cs, c_sp, c_src]
theorem ev_join {ρ : Rho} {f g : EF} {a : Str} {ys : List Str} (hf : f ρ = some (.str a)) (hg : g ρ = some (.list (ys.map .str)) ∨ g ρ = some (.tuple (ys.map .str))) (B : Nat) (hb : ∀ y ∈ ys, y.length ≤ B) (hn : ys.length * (B + a.length) ≤ 1000000) : e2 joinD f g ρ = some (.str (T (joinL a.cps.toList (ys.map fun y => y.cps.toList)))) := by
  have e0 : Txt.join a ys = T (joinL a.cps.toList (ys.map fun y => y.cps.toList)) := by
    rw [join_eq]
    exact str_ext (tl_join a ys)
  have l1 : (joinL a.cps.toList (ys.map fun y => y.cps.toList)).length ≤ 1000000 := by
    refine Nat.le_trans (jl_len (B := B) fun p hp => ?_) ?_
    · obtain ⟨y, hy, rfl⟩ := List.mem_map.mp hp
      rw [← s_len]
      exact hb y hy
    · rw [List.length_map, ← s_len]
      exact hn
  have l2 : ∀ zs : List Str, (∀ y ∈ zs, y.length ≤ B) → (zs.map (·.length)).sum ≤ zs.length * B := fun zs => by
    induction zs with
    | nil => intro _; simp
    | cons z zs ih =>
      intro h
      have := h z (by simp)
      have := ih fun y hy => h y (by simp [hy])
      rw [List.map_cons, List.sum_cons, List.length_cons, Nat.add_mul, Nat.one_mul]
      omega
  have l3 := l2 ys hb
  rw [Nat.mul_add] at hn
  have c : (ys.map (·.length)).sum + ys.length * a.length ≤ 1000000 ∧ (Txt.join a ys).length ≤ sizeLine := ⟨by omega, by
    rw [e0, T_len]
    exact Nat.le_trans l1 (by decide)⟩
  unfold e2
  rw [hf]
  rcases hg with hg | hg
  · rw [hg]
    show (strsD (ys.map .str)).bind _ = _
    rw [strsD.map]
    show (if _ then _ else none) = _
    rw [if_pos c, e0]
  · rw [hg]
    show (strsD (ys.map .str)).bind _ = _
    rw [strsD.map]
    show (if _ then _ else none) = _
    rw [if_pos c, e0]
theorem strD_ok {i : Int} (h0 : 0 ≤ i) (h1 : i ≤ 1000000) : strD [.int i] = some (.str (T (nL i))) := by
  rw [← num_T h0]
  exact if_pos (by omega)
def SWayL : Sem Wy := ⟨fun y => [y.d], WyB, fun y => .str (ln (wyW y)), fun {x y} _ _ e => by
  injection e with e _
  rw [Wy.inj e]⟩
theorem jl_app {s : Nat} : ∀ {xs ys : List (List Nat)}, xs ≠ [] → ys ≠ [] → joinL [s] (xs ++ ys) = joinL [s] xs ++ s :: joinL [s] ys
  | [], _, h, _ => (h rfl).elim
  | [x], y :: ys, _, _ => rfl
  | x :: z :: r, ys, _, h => by
    show x ++ ([s] ++ joinL [s] ((z :: r) ++ ys)) = (x ++ ([s] ++ joinL [s] (z :: r))) ++ s :: joinL [s] ys
    rw [jl_app (xs := z :: r) (by simp) h]
    simp
theorem jl_flat {s : Nat} : ∀ {xss : List (List (List Nat))}, (∀ xs ∈ xss, xs ≠ []) → joinL [s] (xss.map (joinL [s])) = joinL [s] xss.flatten
  | [], _ => rfl
  | [x], _ => by simp [joinL]
  | x :: y :: r, h => by
    have hx := h x (by simp)
    have hy := h y (by simp)
    have hf : (y :: r).flatten ≠ [] := by
      rw [List.flatten_cons]
      intro e
      exact hy (List.append_eq_nil_iff.mp e).1
    rw [List.flatten_cons, jl_app hx hf, ← jl_flat (xss := y :: r) fun z hz => h z (by simp [hz])]
    rfl
theorem ev_eif {c : Rho → Option Bool} {f g : EF} {ρ : Rho} {b : Bool} (hc : c ρ = some b) : eIf c f g ρ = if b = true then f ρ else g ρ := by
  unfold eIf
  rw [hc]
  rfl
theorem hr_str {hs : List Int} (h : ∀ i ∈ hs, 0 ≤ i ∧ i ≤ 1000000) (hl : hs.length ≤ 6) : (T (hrW hs)).length ≤ 48 := by
  rw [T_len]
  exact hr_len h hl
theorem ok_wayL {f : Addr} {fd : FuncData} (F : Fun K "way_line" "way_line" s_way_line f fd) (m_str : mg "str" = none) {t1 : Tok} (g_NO_HOURS : mg "NO_HOURS" = some (.str (Str.ofString "-") t1)) : FnOk P w K mg base CX0 1 f fd ["way"] (spD 1 SWayL.f) := by
  refine okFn F sc_way_line rfl fun cdv A outer s H E hr => ⟨_, (dSs_cons (dS_asg (K := K) (p := (.tp (.cons (.nm 1) (.cons (.nm 2) (.cons (.nm 3) (.cons (.nm 4) (.cons (.nm 5) .nil))))))) (ps_asg (dE_var (μ := true) (pv 0)) (pg_tup (by rfl) (pgs_cons (pg_name (i := 1) sc_way_line.nd rfl (.inl rfl)) (pgs_cons (pg_name (i := 2) sc_way_line.nd rfl (.inl rfl)) (pgs_cons (pg_name (i := 3) sc_way_line.nd rfl (.inl rfl)) (pgs_cons (pg_name (i := 4) sc_way_line.nd rfl (.inl rfl)) (pgs_cons (pg_name (i := 5) sc_way_line.nd rfl (.inl rfl)) pgs_nil))))))))
  (dSs_cons (dS_asg (K := K) (p := .nm 6) (ps_set (i := 6) sc_way_line.nd rfl (.inl rfl) (dE_if (dT_truth (dE_var (μ := true) (pv 4))) (dE_join (dE_c (μ := true) pe_str) (dE_lc (K := K) (p := (.nm 8)) (pe_lc (own := [("hour", 8)]) (g := gP K (.nm 8)) rfl sc_way_line.nd (dI_seq (dE_var (μ := true) (pv 4))) (blkOk_by (own := [("hour", 8)]) (N := ["way", "kind", "parts", "keeps", "hours", "wait", "word", "words", "hour", "part", "least", "greatest"]) (sc := defScope s_way_line) (by decide +kernel)) (fun _ _ _ _ _ => (pg_name (i := 8) sc_way_line.nd rfl (.inl rfl))) (fun _ _ _ _ _ => dTs_nil) (fun _ _ _ _ _ => (dE_callTy c_strI (by rfl) m_str (by decide +kernel) (dA_cons (dE_var (μ := true) (pv 8)) (dA_nil (μ := true)))))))) (dE_c (μ := true) (pe_glob (v := .str (Str.ofString "-")) (by rfl) g_NO_HOURS ⟨_, rfl⟩)))))
  (dSs_cons (dS_asg (K := K) (p := .nm 7) (ps_set (i := 7) sc_way_line.nd rfl (.inl rfl) (dE_lst (dA_cons (dE_joined (dJ_cons (dE_c (μ := true) pe_str) (dJ_cons (dE_fmt (dE_var (μ := true) (pv 1))) (dJ_cons (dE_c (μ := true) pe_str) (dJ_cons (dE_fmt (dE_var (μ := true) (pv 3))) (dJ_cons (dE_c (μ := true) pe_str) (dJ_cons (dE_fmt (dE_var (μ := true) (pv 6))) (dJ_cons (dE_c (μ := true) pe_str) (dJ_cons (dE_fmt (dE_var (μ := true) (pv 5))) dJ_nil))))))))) (dA_nil (μ := true))))))
  (dSs_one (dS_ret (ps_ret (dE_join (dE_c (μ := true) pe_str) (dE_op o_add (dE_var (μ := true) (pv 7)) (dE_lc (K := K) (p := (.tp (.cons (.nm 9) (.cons (.nm 10) (.cons (.nm 11) .nil))))) (pe_lc (own := [("part", 9), ("least", 10), ("greatest", 11)]) (g := gP K (.tp (.cons (.nm 9) (.cons (.nm 10) (.cons (.nm 11) .nil))))) rfl sc_way_line.nd (dI_seq (dE_var (μ := true) (pv 2))) (blkOk_by (own := [("part", 9), ("least", 10), ("greatest", 11)]) (N := ["way", "kind", "parts", "keeps", "hours", "wait", "word", "words", "hour", "part", "least", "greatest"]) (sc := defScope s_way_line) (by decide +kernel)) (fun _ _ _ _ _ => (pg_tup (by rfl) (pgs_cons (pg_name (i := 9) sc_way_line.nd rfl (.inl rfl)) (pgs_cons (pg_name (i := 10) sc_way_line.nd rfl (.inl rfl)) (pgs_cons (pg_name (i := 11) sc_way_line.nd rfl (.inl rfl)) pgs_nil))))) (fun _ _ _ _ _ => dTs_nil) (fun _ _ _ _ _ => (dE_joined (dJ_cons (dE_fmt (dE_var (μ := true) (pv 9))) (dJ_cons (dE_c (μ := true) pe_str) (dJ_cons (dE_fmt (dE_var (μ := true) (pv 10))) (dJ_cons (dE_c (μ := true) pe_str) (dJ_cons (dE_fmt (dE_var (μ := true) (pv 11))) dJ_nil))))))))))))))))), fun ds d l e => ?_⟩
  obtain ⟨y, hy, rfl, rfl⟩ := Sem.get e
  obtain ⟨bk, bkp, bh, bhl, bw, bp3, bp1, bp⟩ := hy
  have hW : WyB y := ⟨bk, bkp, bh, bhl, bw, bp3, bp1, bp⟩
  let R : Option LV → Option LV → Rho := fun u v => [some (.dat y.d), some (.dat (.str y.k)), some (.dat (.tuple (y.ps.map Pt.d))), some (.dat (.str y.kp)), some (.dat (.tuple (y.hs.map .int))), some (.dat (.int y.w)), u, v, none, none, none, none]
  refine ⟨.rt (.str (ln (wyW y))), ?_, rfl⟩
  refine (ev_asg (ρ' := R none none) rfl rfl).trans ?_
  refine (ev_asg (d := .str (T (hrW y.hs))) (ρ' := R (some (.dat (.str (T (hrW y.hs))))) none) ?_ rfl).trans ?_
  · refine (ev_eif (b := !y.hs.isEmpty) ?_).trans ?_
    · show oTr (eVar 4) (R none none) = _
      show trD (.tuple (y.hs.map .int)) = _
      cases y.hs <;> rfl
    · cases hh : y.hs with
      | nil =>
        rw [show hrW ([] : List Int) = [45] from rfl]
        show some (PyData.str (Str.ofString "-")) = _
        rw [str_ext (x := Str.ofString "-") (y := T [45]) c_ds]
      | cons i is =>
        rw [← hh]
        have ne : y.hs ≠ [] := by rw [hh]; exact List.cons_ne_nil _ _
        rw [show (!y.hs.isEmpty) = true by rw [hh]; rfl, if_pos rfl]
        have ew : hrW y.hs = joinL [44] ((y.hs.map fun i => T (nL i)).map fun z => z.cps.toList) := by
          unfold hrW
          rw [if_neg ne, List.map_map]
          rfl
        rw [ew, ← c_co]
        refine ev_join rfl (.inl (ev_lcE (items := y.hs.map .int) rfl ?_)) 7 (fun z hz => ?_) ?_
        · rw [List.map_map]
          refine ev_lcG (e := PyData.int) (t := PyData.str ∘ fun i => T (nL i)) y.hs fun i hi => ⟨_, rfl, ?_⟩
          have b := bh i hi
          exact strD_ok b.1 b.2
        · obtain ⟨i, hi, rfl⟩ := List.mem_map.mp hz
          rw [T_len]
          exact nL_len (bh i hi).2
        · rw [List.length_map]
          show y.hs.length * 8 ≤ _
          omega
  let A : Str := T (joinL [32] [cs "way", y.k.cps.toList, y.kp.cps.toList, hrW y.hs, nL y.w])
  have wl := wy_len hW
  have lA : A.length ≤ 245 := by
    show (T _).length ≤ _
    rw [T_len]
    refine Nat.le_trans (jl_len (B := 48) fun p hp => wl.1 p (List.mem_append_left _ hp)) (Nat.le_refl _)
  refine (ev_asg (d := .list [.str A]) (ρ' := R (some (.dat (.str (T (hrW y.hs))))) (some (.dat (.list [.str A])))) (ev_lstX (ev_cons (ev_jn (z := A) (.cons rfl (.cons (ev_fmtS rfl) (.cons rfl (.cons (ev_fmtS rfl) (.cons rfl (.cons (ev_fmtS rfl) (.cons rfl (.cons (ev_fmtI rfl bw.1 bw.2) .nil)))))))) ?_ (by omega)) rfl) (by show 1 ≤ 1000; decide)) rfl).trans ?_
  · show _ = joinL [32] [cs "way", y.k.cps.toList, y.kp.cps.toList, hrW y.hs, nL y.w]
    simp [T_l, joinL, cs, c_sp, c_way]
  let pt : Pt → Str := fun p => ln (prW p)
  have pl : ∀ p ∈ y.ps, ∀ q ∈ prW p, q.length ≤ 48 := fun p hp q hq => wl.1 q (List.mem_append_right _ (List.mem_flatMap.mpr ⟨p, hp, hq⟩))
  refine ev_ret ?_
  have e1 : ln (wyW y) = T (joinL (Str.ofString " ").cps.toList ((A :: y.ps.map pt).map fun z => z.cps.toList)) := by
    rw [c_sp]
    have := jl_flat (s := 32) (xss := [cs "way", y.k.cps.toList, y.kp.cps.toList, hrW y.hs, nL y.w] :: y.ps.map prW) fun xs hx => by
      rcases List.mem_cons.mp hx with rfl | hx
      · exact List.cons_ne_nil _ _
      · obtain ⟨p, _, rfl⟩ := List.mem_map.mp hx
        exact List.cons_ne_nil _ _
    show T (joinL [32] (wyW y)) = _
    rw [List.map_cons, List.map_map]
    rw [List.map_cons, List.map_map, List.flatten_cons] at this
    unfold wyW List.flatMap
    rw [← this]
    rfl
  rw [e1]
  refine ev_join rfl (.inl (ev_e2 (a := .list [.str A]) (b := .list ((y.ps.map pt).map .str)) rfl (ev_lcE (items := y.ps.map Pt.d) rfl ?_) ?_)) 245 (fun z hz => ?_) ?_
  · rw [List.map_map]
    refine ev_lcG (e := Pt.d) (t := PyData.str ∘ pt) y.ps fun p hp => ⟨_, rfl, ?_⟩
    have g := bp p hp
    have b1 := g.b p.l (by simp)
    have b2 := g.b p.g (by simp)
    refine ev_jn (z := ln (prW p)) (.cons (ev_fmtS rfl) (.cons rfl (.cons (ev_fmtI rfl b1.1 b1.2) (.cons rfl (.cons (ev_fmtI rfl b2.1 b2.2) .nil))))) ?_ (Nat.le_trans (ln_len (n := 3) (pl p hp) (Nat.le_refl _)) (by decide))
    simp [ln, prW, T_l, joinL, c_sp]
  · show (if _ then _ else none) = _
    rw [if_pos (by rw [List.length_map, List.length_map]; exact sz (by show 1 + _ ≤ _; omega))]
    rfl
  · rcases List.mem_cons.mp hz with rfl | hz
    · exact lA
    · obtain ⟨p, hp, rfl⟩ := List.mem_map.mp hz
      exact Nat.le_trans (ln_len (n := 3) (pl p hp) (Nat.le_refl _)) (by decide)
  · rw [List.length_cons, List.length_map]
    show (y.ps.length + 1) * (245 + 1) ≤ _
    omega
end
end Dl
namespace Dl
open PySem PySem.Spec PyProof.Rows L2 Rt TL
def SLns : Sem Wd := ⟨fun X => [X.d], WdB, fun X => .list ((lns X).map .str), fun {x y} _ _ e => by
  injection e with e _
  rw [Wd.inj e]⟩
def STxt : Sem Wd := ⟨fun X => [X.d], WdB, fun X => .str (txt X), fun {x y} _ _ e => by
  injection e with e _
  rw [Wd.inj e]⟩
theorem lns_len {X : Wd} (h : WdB X) : (∀ z ∈ lns X, z.length ≤ 700) ∧ (lns X).length ≤ 16 := by
  have k4 := h.k4
  have s6 := h.s6
  have w8 := h.w8
  refine ⟨fun z hz => ?_, ?_⟩
  · unfold lns at hz
    rcases List.mem_cons.mp hz with rfl | hz
    · refine Nat.le_trans (ln_len (n := 2) (fun p hp => ?_) (Nat.le_refl _)) (by decide)
      have e : (cs "round").length ≤ 48 := by decide +kernel
      have := nL_len h.n.2
      simp only [List.mem_cons, List.not_mem_nil, or_false] at hp
      rcases hp with rfl | rfl <;> omega
    · rcases List.mem_cons.mp hz with rfl | hz
      · refine Nat.le_trans (ln_len (n := 5) (fun p hp => ?_) (by rw [List.length_cons, List.length_map]; omega)) (by decide)
        rcases List.mem_cons.mp hp with rfl | hp
        · decide +kernel
        · obtain ⟨z, hz, rfl⟩ := List.mem_map.mp hp
          have := nm_len (h.ks z hz)
          omega
      · rcases List.mem_append.mp hz with hz | hz
        · obtain ⟨s, hs, rfl⟩ := List.mem_map.mp hz
          exact Nat.le_trans (ln_len (n := 6) (src_len (h.ss s hs)) (Nat.le_refl _)) (by decide)
        · obtain ⟨y, hy, rfl⟩ := List.mem_map.mp hz
          have := wy_len (h.ws y hy)
          exact Nat.le_trans (ln_len (n := 14) this.1 this.2) (by decide)
  · unfold lns
    rw [List.length_cons, List.length_cons, List.length_append, List.length_map, List.length_map]
    omega
theorem txt_len {X : Wd} (h : WdB X) : (txt X).length ≤ 16 * 701 := by
  have l := lns_len h
  show (T _).length ≤ _
  rw [T_len]
  refine Nat.le_trans (jl_len (B := 700) fun p hp => ?_) ?_
  · obtain ⟨z, hz, rfl⟩ := List.mem_map.mp hp
    rw [← s_len]
    exact l.1 z hz
  · rw [List.length_map]
    exact Nat.mul_le_mul_right _ l.2
theorem ev_cat {f g : EF} {ρ : Rho} {xs ys : List D} (hf : f ρ = some (.list xs)) (hg : g ρ = some (.list ys)) (hl : xs.length + ys.length ≤ 1000) : e2 addD f g ρ = some (.list (xs ++ ys)) := by
  refine ev_e2 hf hg ?_
  show (if _ then _ else none) = _
  exact if_pos (sz (by omega))
section
variable {P : Program} {w : World} {K : PySem.W.Frag} {mg : Str → Option Value} {base : Heap}
theorem ok_wldL {f : Addr} {fd : FuncData} (F : Fun K "world_lines" "world_lines" s_world_lines f fd) (C_source_line : Cl P w K mg base 1 "source_line" ["source"] (spD 1 SSrcL.f)) (C_way_line : Cl P w K mg base 1 "way_line" ["way"] (spD 1 SWayL.f)) : FnOk P w K mg base CX0 2 f fd ["world"] (spD 1 SLns.f) := by
  refine okFn F sc_world_lines rfl fun cdv A outer s H E hr => ⟨_, (dSs_cons (dS_asg (K := K) (p := (.tp (.cons (.nm 1) (.cons (.nm 2) (.cons (.nm 3) (.cons (.nm 4) .nil)))))) (ps_asg (dE_var (μ := true) (pv 0)) (pg_tup (by rfl) (pgs_cons (pg_name (i := 1) sc_world_lines.nd rfl (.inl rfl)) (pgs_cons (pg_name (i := 2) sc_world_lines.nd rfl (.inl rfl)) (pgs_cons (pg_name (i := 3) sc_world_lines.nd rfl (.inl rfl)) (pgs_cons (pg_name (i := 4) sc_world_lines.nd rfl (.inl rfl)) pgs_nil)))))))
  (dSs_cons (dS_asg (K := K) (p := .nm 5) (ps_set (i := 5) sc_world_lines.nd rfl (.inl rfl) (dE_lst (dA_cons (dE_joined (dJ_cons (dE_c (μ := true) pe_str) (dJ_cons (dE_fmt (dE_var (μ := true) (pv 1))) dJ_nil))) (dA_cons (dE_join (dE_c (μ := true) pe_str) (dE_op o_add (dE_tup (dA_cons (dE_c (μ := true) pe_str) (dA_nil (μ := true)))) (dE_var (μ := true) (pv 2)))) (dA_nil (μ := true)))))))
  (dSs_one (dS_ret (ps_ret (dE_op o_add (dE_op o_add (dE_var (μ := true) (pv 5)) (dE_lc (K := K) (p := (.nm 7)) (pe_lc (own := [("source", 7)]) (g := gP K (.nm 7)) rfl sc_world_lines.nd (dI_seq (dE_var (μ := true) (pv 3))) (blkOk_by (own := [("source", 7)]) (N := ["world", "span", "kinds", "sources", "ways", "lines", "way", "source"]) (sc := defScope s_world_lines) (by decide +kernel)) (fun _ _ _ _ _ => (pg_name (i := 7) sc_world_lines.nd rfl (.inl rfl))) (fun _ _ _ _ _ => dTs_nil) (fun _ _ _ _ _ => (dE_cl C_source_line (hr.mono (by omega)) (by rfl) (dA_cons (dE_var (μ := true) (pv 7)) (dA_nil (μ := true)))))))) (dE_lc (K := K) (p := (.nm 6)) (pe_lc (own := [("way", 6)]) (g := gP K (.nm 6)) rfl sc_world_lines.nd (dI_seq (dE_var (μ := true) (pv 4))) (blkOk_by (own := [("way", 6)]) (N := ["world", "span", "kinds", "sources", "ways", "lines", "way", "source"]) (sc := defScope s_world_lines) (by decide +kernel)) (fun _ _ _ _ _ => (pg_name (i := 6) sc_world_lines.nd rfl (.inl rfl))) (fun _ _ _ _ _ => dTs_nil) (fun _ _ _ _ _ => (dE_cl C_way_line (hr.mono (by omega)) (by rfl) (dA_cons (dE_var (μ := true) (pv 6)) (dA_nil (μ := true))))))))))))), fun ds d l e => ?_⟩
  obtain ⟨X, hX, rfl, rfl⟩ := Sem.get e
  have hX : WdB X := hX
  have k4 := hX.k4
  have s6 := hX.s6
  have w8 := hX.w8
  let R : Option LV → Rho := fun u => [some (.dat X.d), some (.dat (.int X.n)), some (.dat (.tuple (X.ks.map .str))), some (.dat (.tuple (X.ss.map Sr.d))), some (.dat (.tuple (X.ws.map Wy.d))), u, none, none]
  let l0 : Str := ln [cs "round", nL X.n]
  let l1 : Str := ln (cs "kinds" :: X.ks.map fun z => z.cps.toList)
  refine ⟨.rt (.list ((lns X).map .str)), ?_, rfl⟩
  refine (ev_asg (ρ' := R none) rfl rfl).trans ?_
  refine (ev_asg (d := .list [.str l0, .str l1]) (ρ' := R (some (.dat (.list [.str l0, .str l1])))) (ev_lstX (ev_cons ?_ (ev_cons ?_ rfl)) (by show 2 ≤ 1000; decide)) rfl).trans ?_
  · refine ev_jn (z := l0) (.cons rfl (.cons (ev_fmtI rfl hX.n.1 hX.n.2) .nil)) ?_ ?_
    · simp [l0, ln, T_l, joinL, cs, c_rnd]
    · have := (lns_len hX).1 l0 (by unfold lns; exact List.mem_cons_self ..)
      omega
  · have e1 : l1 = T (joinL (Str.ofString " ").cps.toList ((Str.ofString "kinds" :: X.ks).map fun z => z.cps.toList)) := by rw [c_sp]; rfl
    rw [e1]
    refine ev_join rfl (.inr (ev_e2 (a := .tuple [.str (Str.ofString "kinds")]) (b := .tuple (X.ks.map .str)) rfl rfl ?_)) 8 (fun z hz => ?_) ?_
    · show (if _ then _ else none) = _
      rw [if_pos (by rw [List.length_map]; exact sz (by show 1 + _ ≤ _; omega))]
      rfl
    · rcases List.mem_cons.mp hz with rfl | hz
      · decide +kernel
      · exact (hX.ks z hz).2.1
    · rw [List.length_cons]
      show (X.ks.length + 1) * (8 + 1) ≤ _
      omega
  · refine ev_ret ?_
    have e2 : (lns X).map PyData.str = ([.str l0, .str l1] ++ (X.ss.map fun s => .str (ln (srcW s)))) ++ (X.ws.map fun y => .str (ln (wyW y))) := by
      show PyData.str l0 :: PyData.str l1 :: ((X.ss.map fun s => ln (srcW s)) ++ X.ws.map fun y => ln (wyW y)).map PyData.str = _
      rw [List.map_append, List.map_map, List.map_map]
      rfl
    rw [e2]
    refine ev_cat (ev_cat rfl (ev_lcE (items := X.ss.map Sr.d) rfl (ev_lcG (e := Sr.d) (t := fun s => .str (ln (srcW s))) X.ss fun s hs => ⟨_, rfl, ev_call (ds := [s.d]) rfl rfl (Sem.of (S := SSrcL) (x := s) (hX.ss s hs))⟩)) ?_) (ev_lcE (items := X.ws.map Wy.d) rfl (ev_lcG (e := Wy.d) (t := fun y => .str (ln (wyW y))) X.ws fun y hy => ⟨_, rfl, ev_call (ds := [y.d]) rfl rfl (Sem.of (S := SWayL) (x := y) (hX.ws y hy))⟩)) ?_
    · rw [List.length_map]
      show 2 + _ ≤ 1000
      omega
    · rw [List.length_append, List.length_map, List.length_map]
      show 2 + _ + _ ≤ 1000
      omega
theorem ok_wldT {f : Addr} {fd : FuncData} (F : Fun K "world_text" "world_text" s_world_text f fd) (C_world_lines : Cl P w K mg base 2 "world_lines" ["world"] (spD 1 SLns.f)) : FnOk P w K mg base CX0 3 f fd ["world"] (spD 1 STxt.f) := by
  refine okFn F sc_world_text rfl fun cdv A outer s H E hr => ⟨_, (dSs_one (dS_ret (ps_ret (dE_join (dE_c (μ := true) pe_str) (dE_cl C_world_lines (hr.mono (by omega)) (by rfl) (dA_cons (dE_var (μ := true) (pv 0)) (dA_nil (μ := true)))))))), fun ds d l e => ?_⟩
  obtain ⟨X, hX, rfl, rfl⟩ := Sem.get e
  have l := lns_len hX
  refine ⟨.rt (.str (txt X)), ev_ret ?_, rfl⟩
  have e1 : txt X = T (joinL (Str.ofString "\n").cps.toList ((lns X).map fun z => z.cps.toList)) := by rw [c_nl]; rfl
  rw [e1]
  refine ev_join rfl (.inl (ev_call (ds := [X.d]) rfl rfl (Sem.of (S := SLns) (x := X) hX))) 700 l.1 ?_
  show (lns X).length * (700 + 1) ≤ _
  omega
end
end Dl
namespace Dl
open PySem PySem.Spec PyProof.Rows L2 Rt TL
section
variable {P : Program} {w : World} {K : PySem.W.Frag} {mg : Str → Option Value} {base : Heap}
def Sem.mk' {α : Type} (enc : α → List D) (ok : α → Prop) (out : α → D) (rd : List D → D) (h : ∀ x, ok x → rd (enc x) = out x) : Sem α := ⟨enc, ok, out, fun {x y} hx hy e => by rw [← h x hx, ← h y hy, e]⟩
def numR (l : List Nat) : D := .int (NumText.digitsVal l : Nat)
def numRd : D → D
  | .str w => numR w.cps.toList
  | d => d
theorem numR_n {i : Int} (h : 0 ≤ i) : numR (nL i) = .int i := by
  show PyData.int (NumText.digitsVal (numL i.toNat) : Nat) = _
  rw [numL_val]
  congr 1
  omega
def nS (i : Int) : D := .str (T (nL i))
theorem numRd_n {i : Int} (h : 0 ≤ i) : numRd (nS i) = .int i := numR_n h
def NmB (i : Int) : Prop := 0 ≤ i ∧ i ≤ 1000000
def SNumO : Sem Int := Sem.mk' (fun i => [nS i]) NmB (fun i => .int i) (fun ds => match ds with | [d] => numRd d | _ => .none) fun i h => numRd_n h.1
theorem ok_nS (i : Int) : PyData.strOk (T (nL i)) = true := strOk_iff.mpr fun c hc => by
  by_cases z : c < 48 ∨ 57 < c
  · exact (nL_free z hc).elim
  · omega
theorem eqv_str (a b : Str) : PyData.eqv (.str a) (.str b) = decide (a = b) := by
  show (a == b) = decide (a = b)
  rw [Bool.eq_iff_iff]
  simp
theorem ev_eqs {f g : EF} {ρ : Rho} {a b : Str} (hf : f ρ = some (.str a)) (hg : g ρ = some (.str b)) (h1 : PyData.strOk a = true) (h2 : PyData.strOk b = true) : oB (e2 eqD f g) ρ = some (decide (a = b)) := by
  refine ev_oB (ev_e2 hf hg ?_)
  unfold eqD
  rw [if_pos (by rw [okD_str h1, okD_str h2]; rfl), eqv_str]
theorem dig_mem : ∀ c, 48 ≤ c → c ≤ 57 → c ∈ cs "0123456789" := fun c h1 h2 => by
  have : c = 48 ∨ c = 49 ∨ c = 50 ∨ c = 51 ∨ c = 52 ∨ c = 53 ∨ c = 54 ∨ c = 55 ∨ c = 56 ∨ c = 57 := by omega
  rcases this with rfl | rfl | rfl | rfl | rfl | rfl | rfl | rfl | rfl | rfl <;> decide +kernel
theorem nL_dig {i : Int} {c : Nat} (h : c ∈ nL i) : 48 ≤ c ∧ c ≤ 57 := by
  by_cases z : c < 48 ∨ 57 < c
  · exact (nL_free z h).elim
  · omega
theorem ok_numO {f : Addr} {fd : FuncData} {t1 t2 : Tok} (F : Fun K "number_of" "number_of" s_number_of f fd) (m_len : mg "len" = none) (m_all : mg "all" = none) (m_int : mg "int" = none) (m_str : mg "str" = none) (g_FIGURES : mg "FIGURES" = some (.int 16 t1)) (g_DIGITS : mg "DIGITS" = some (.str (Str.ofString "0123456789") t2)) : FnOk P w K mg base CX0 1 f fd ["word"] (spD 1 SNumO.f) := by
  refine okFn F sc_number_of rfl fun cdv A outer s H E hr => ⟨_, (dSs_cons (dS_asg (K := K) (p := .nm 1) (ps_set (i := 1) sc_number_of.nd rfl (.inl rfl) (dE_if (dT_cmp (o_eq hr.units) (dE_slX (dE_var (μ := true) (pv 0)) dO_none (dO_some (dE_c (μ := true) pe_int))) (dE_c (μ := true) pe_str) (nomark _)) (dE_slX (dE_var (μ := true) (pv 0)) (dO_some (dE_c (μ := true) pe_int)) dO_none) (dE_var (μ := true) (pv 0)))))
  (dSs_cons (dS_if (PW.pt (dW_or (dT_not (dT_chain o_le o_le (dE_c (μ := true) pe_int) (dE_callB c_len (by rfl) m_len (by decide +kernel) (dA_cons (dE_var (μ := true) (pv 1)) (dA_nil (μ := true)))) (dE_c (μ := true) (pe_glob (v := .int 16) (by rfl) g_FIGURES ⟨_, rfl⟩)))) (dW_or1 (dT_not (dT_val (dE_callB (c_all rfl) (by rfl) m_all (by decide +kernel) (dA_cons (dE_lc (K := K) (p := (.nm 3)) (pe_lc (own := [("sign", 3)]) (g := gP K (.nm 3)) rfl sc_number_of.nd (dI_str (dE_var (μ := true) (pv 1))) (blkOk_by (own := [("sign", 3)]) (N := ["word", "figures", "number", "sign"]) (sc := defScope s_number_of) (by decide +kernel)) (fun _ _ _ _ _ => (pg_name (i := 3) sc_number_of.nd rfl (.inl rfl))) (fun _ _ _ _ _ => dTs_nil) (fun _ _ _ _ _ => (dE_cmp (o_in (u65 hr)) (dE_var (μ := true) (pv 3)) (dE_c (μ := true) (pe_glob (v := .str (Str.ofString "0123456789")) (by rfl) g_DIGITS ⟨_, rfl⟩)) (by rfl))))) (dA_nil (μ := true)))))))))
    (dSs_one (dS_ret (ps_ret (dE_c (μ := true) pe_non))))
    dSs_nil)
  (dSs_cons (dS_asg (K := K) (p := .nm 2) (ps_set (i := 2) sc_number_of.nd rfl (.inl rfl) (dE_callTy c_intT (by rfl) m_int (by decide +kernel) (dA_cons (dE_var (μ := true) (pv 0)) (dA_nil (μ := true))))))
  (dSs_one (dS_ret (ps_ret (dE_if (dT_cmp (o_eq hr.units) (dE_callTy c_strI (by rfl) m_str (by decide +kernel) (dA_cons (dE_var (μ := true) (pv 2)) (dA_nil (μ := true)))) (dE_var (μ := true) (pv 0)) (nomark _)) (dE_var (μ := true) (pv 2)) (dE_c (μ := true) pe_non)))))))), fun ds d l e => ?_⟩
  obtain ⟨i, hi, rfl, rfl⟩ := Sem.get e
  have hi : NmB i := hi
  have ne : nL i ≠ [] := numL_ne _
  have ll := nL_len hi.2
  have wl : (T (nL i)).length = (nL i).length := T_len _
  have lp : 0 < (nL i).length := List.length_pos_iff.mpr ne
  let R : Option LV → Option LV → Rho := fun u v => [some (.dat (nS i)), u, v, none]
  refine ⟨.rt (.int i), ?_, rfl⟩
  have ec : (cutS (T (nL i)) none (some (1 : Int))).cps.toList = (nL i).take 1 := tl_cut_to (T (nL i)) (j := 1) (by rw [wl]; omega)
  refine (ev_asg (d := nS i) (ρ' := R (some (.dat (nS i))) none) ((ev_eif (b := false) ?_).trans rfl) rfl).trans ?_
  · refine (ev_eqs (a := cutS (T (nL i)) none (some 1)) (b := Str.ofString "-") rfl rfl (strOk_iff.mpr fun c hc => ?_) (by decide +kernel)).trans (congrArg some (decide_eq_false fun e => ?_))
    · rw [ec] at hc
      have := nL_dig (List.mem_of_mem_take hc)
      omega
    · have e2 := congrArg (fun z : Str => z.cps.toList) e
      have e2 : (cutS (T (nL i)) none (some 1)).cps.toList = (Str.ofString "-").cps.toList := e2
      rw [ec, c_ds] at e2
      have : 45 ∈ (nL i).take 1 := by rw [e2]; simp
      have := nL_dig (List.mem_of_mem_take this)
      omega
  refine (ev_guard (b := false) ?_ rfl).trans ?_
  · refine (ev_oOr (b := false) (ev_not (b := true) (ev_oB ?_))).trans (ev_not (b := true) (ev_oB ?_))
    · have l1 : (1 : Int) ≤ ((T (nL i)).length : Nat) := by rw [wl]; omega
      have l2 : ((T (nL i)).length : Int) ≤ 16 := by rw [wl]; omega
      simp [eChain, eC, eCall, aCons, aNil, eVar, lenD, leD, bB, R, nS, l1, l2]
    · refine (ev_all (xs := nL i) (t := fun c => decide (c ∈ cs "0123456789")) rfl ?_).trans ?_
      · show lcGo _ _ _ _ ((nL i).map fun c => PyData.str ⟨#[c]⟩) = _
        exact ev_lcG (e := fun c => PyData.str ⟨#[c]⟩) (t := fun c => .bool (decide (c ∈ cs "0123456789"))) (nL i) fun c hc => ⟨_, rfl, rfl⟩
      · congr 2
        rw [List.all_eq_true]
        intro c hc
        have := nL_dig hc
        exact decide_eq_true (dig_mem c this.1 this.2)
  have ei : intText? (T (nL i)) = some i := by
    have := int_num (n := i.toNat) (by show (numL i.toNat).length ≤ 4300; have : (nL i).length ≤ 7 := ll; unfold nL at this; omega)
    rw [← num_T hi.1]
    have ez : ((i.toNat : Nat) : Int) = i := by have := hi.1; omega
    rw [ez] at this
    exact this
  refine (ev_asg (d := .int i) (ρ' := R (some (.dat (nS i))) (some (.dat (.int i)))) ?_ rfl).trans (ev_ret ?_)
  · show ((intText? (T (nL i))).bind fun n => if (T (nL i)).length ≤ 640 then some (PyData.int n) else none) = _
    rw [ei]
    exact if_pos (by rw [wl]; omega)
  · refine (ev_eif (b := true) ((ev_eqs (a := T (nL i)) (b := T (nL i)) ?_ rfl (ok_nS i) (ok_nS i)).trans (congrArg some (decide_eq_true rfl)))).trans rfl
    show strD [.int i] = _
    exact strD_ok hi.1 hi.2
/-! hours -/
def hrR (l : List Nat) : D := if l = [45] then .tuple [] else .tuple ((spl [44] 0 [] l).map numR)
theorem hr_ne {hs : List Int} (h : hs ≠ []) : joinL [44] (hs.map nL) ≠ [45] := by
  intro e
  cases hs with
  | nil => exact h rfl
  | cons i is =>
    have : ∃ c r, nL i = c :: r := by
      cases z : nL i with
      | nil => exact (numL_ne _ z).elim
      | cons c r => exact ⟨c, r, rfl⟩
    obtain ⟨c, r, ec⟩ := this
    have hc := nL_dig (show c ∈ nL i by rw [ec]; simp)
    have : ∃ t, joinL [44] ((i :: is).map nL) = c :: t := by
      cases is with
      | nil => exact ⟨r, by rw [List.map_cons, ec]; rfl⟩
      | cons k ks => exact ⟨r ++ ([44] ++ joinL [44] ((k :: ks).map nL)), by rw [List.map_cons, ec]; rfl⟩
    obtain ⟨t, et⟩ := this
    rw [et] at e
    injection e with e _
    omega
theorem hr_sp {hs : List Int} (h : hs ≠ []) : spl [44] 0 [] (joinL [44] (hs.map nL)) = hs.map nL := spl_join (by simpa using h) fun p hp => by
  obtain ⟨i, _, rfl⟩ := List.mem_map.mp hp
  exact nL_free (by decide)
theorem hrR_h {hs : List Int} (h : ∀ i ∈ hs, 0 ≤ i ∧ i ≤ 1000000) : hrR (hrW hs) = .tuple (hs.map .int) := by
  unfold hrR hrW
  by_cases z : hs = []
  · rw [if_pos z, if_pos rfl, z]
    rfl
  · rw [if_neg z, if_neg (hr_ne z), hr_sp z, List.map_map]
    congr 1
    exact List.map_congr_left fun i hi => numR_n (h i hi).1
def HrB (hs : List Int) : Prop := (∀ i ∈ hs, 0 ≤ i ∧ i ≤ 1000000) ∧ hs.length ≤ 6
def SHrO : Sem (List Int) := Sem.mk' (fun hs => [.str (T (hrW hs))]) HrB (fun hs => .tuple (hs.map .int)) (fun ds => match ds with | [.str z] => hrR z.cps.toList | _ => .none) fun hs h => hrR_h h.1
theorem ev_split {ρ : Rho} {f g : EF} {b : Str} {s : Nat} {ws : List (List Nat)} (eb : b.cps.toList = [s]) (hs : s < 256) (hf : f ρ = some (.str (T (joinL [s] ws)))) (hg : g ρ = some (.str b)) (ne : ws ≠ []) (hw : ∀ p ∈ ws, s ∉ p) (B : Nat) (hl : ∀ p ∈ ws, p.length ≤ B) (hn : ws.length * (B + 1) ≤ 20000) : e2 splitD f g ρ = some (.list (ws.map fun p => .str (T p))) := by
  have e1 : T (joinL [s] ws) = Txt.join b (ws.map T) := by
    rw [join_eq]
    refine str_ext (Eq.trans ?_ (tl_join b (ws.map T)).symm)
    show joinL [s] ws = joinL b.cps.toList ((ws.map T).map fun z => z.cps.toList)
    rw [eb, List.map_map]
    congr 1
    exact (List.map_id _).symm
  have e2 : Txt.split (T (joinL [s] ws)) b = ws.map T := by
    rw [e1]
    refine split_join (s := s) (S := []) eb ?_ (by simpa using ne) fun p hp => ?_
    · rw [← Array.all_toList, eb]
      simp [hs]
    · obtain ⟨q, hq, rfl⟩ := List.mem_map.mp hp
      exact hw q hq
  have bl : b.length = 1 := by rw [s_len, eb]; rfl
  have jl := jl_len (S := [s]) hl
  have jl : (joinL [s] ws).length ≤ ws.length * (B + 1) := jl
  have wl : ws.length ≤ 20000 := Nat.le_trans (Nat.le_mul_of_pos_right _ (by omega)) hn
  refine ev_e2 hf hg ?_
  show (if _ then _ else none) = _
  have l4 : ∀ x ∈ ws.map T, x.length ≤ sizeLine := fun x hx => by
    obtain ⟨q, hq, rfl⟩ := List.mem_map.mp hx
    rw [T_len]
    have := hl q hq
    have : 1 * (B + 1) ≤ ws.length * (B + 1) := Nat.mul_le_mul_right _ (List.length_pos_iff.mpr ne)
    exact sz (by omega)
  rw [e2, if_pos ⟨by rw [bl]; rfl, by rw [T_len]; exact sz (by omega), by rw [List.length_map]; exact sz (by omega), l4⟩, List.map_map]
  rfl
theorem ev_call1 {g : List D → Option D} {f : Rho → Option (List D)} {ρ : Rho} {ds : List D} {d : D} (hf : f ρ = some ds) (hg : g ds = some d) : eCall g f ρ = some d := by
  unfold eCall
  rw [hf]
  exact hg
theorem ok_hrO {f : Addr} {fd : FuncData} {t1 : Tok} (F : Fun K "hours_of" "hours_of" s_hours_of f fd) (m_tuple : mg "tuple" = none) (g_NO_HOURS : mg "NO_HOURS" = some (.str (Str.ofString "-") t1)) (C_number_of : Cl P w K mg base 1 "number_of" ["word"] (spD 1 SNumO.f)) : FnOk P w K mg base CX0 2 f fd ["word"] (spD 1 SHrO.f) := by
  refine okFn F sc_hours_of rfl fun cdv A outer s H E hr => ⟨_, (dSs_cons (dS_if (dT_cmp (o_eq hr.units) (dE_var (μ := true) (pv 0)) (dE_c (μ := true) (pe_glob (v := .str (Str.ofString "-")) (by rfl) g_NO_HOURS ⟨_, rfl⟩)) (nomark _))
    (dSs_one (dS_ret (ps_ret (dE_tup (dA_nil (μ := true))))))
    dSs_nil)
  (dSs_cons (dS_asg (K := K) (p := .nm 1) (ps_set (i := 1) sc_hours_of.nd rfl (.inl rfl) (dE_callTy c_tuple (by rfl) m_tuple (by decide +kernel) (dA_cons (dE_lc (K := K) (p := (.nm 2)) (pe_lc (own := [("hour", 2)]) (g := gP K (.nm 2)) rfl sc_hours_of.nd (dI_seq (dE_split (dE_var (μ := true) (pv 0)) (dE_c (μ := true) pe_str))) (blkOk_by (own := [("hour", 2)]) (N := ["word", "hours", "hour"]) (sc := defScope s_hours_of) (by decide +kernel)) (fun _ _ _ _ _ => (pg_name (i := 2) sc_hours_of.nd rfl (.inl rfl))) (fun _ _ _ _ _ => dTs_nil) (fun _ _ _ _ _ => (dE_cl C_number_of (hr.mono (by omega)) (by rfl) (dA_cons (dE_var (μ := true) (pv 2)) (dA_nil (μ := true))))))) (dA_nil (μ := true))))))
  (dSs_one (dS_ret (ps_ret (dE_if (dT_cmp (o_in (u65 hr)) (dE_c (μ := true) pe_non) (dE_var (μ := true) (pv 1)) (by rfl)) (dE_c (μ := true) pe_non) (dE_var (μ := true) (pv 1)))))))), fun ds d l e => ?_⟩
  obtain ⟨hs, hh, rfl, rfl⟩ := Sem.get e
  obtain ⟨hb, hl⟩ : HrB hs := hh
  have okh : PyData.strOk (T (hrW hs)) = true := strOk_iff.mpr fun c hc => by
    have hc : c ∈ hrW hs := hc
    have : c < 128 := by
      unfold hrW at hc
      split at hc
      · have : c = 45 := by simpa using hc
        omega
      · have jm : ∀ {ps : List (List Nat)}, (∀ p ∈ ps, ∀ c ∈ p, c < 128) → ∀ c ∈ joinL [44] ps, c < 128 := fun {ps} => by
          induction ps with
          | nil => intro _ c hc; cases hc
          | cons p ps ih =>
            intro h c hc
            cases ps with
            | nil => exact h p (by simp) c hc
            | cons q r =>
              rcases List.mem_append.mp (show c ∈ p ++ ([44] ++ joinL [44] (q :: r)) from hc) with hc | hc
              · exact h p (by simp) c hc
              · rcases List.mem_append.mp hc with hc | hc
                · have : c = 44 := by simpa using hc
                  omega
                · exact ih (fun x hx => h x (by simp [hx])) c hc
        refine jm (fun p hp d hd => ?_) c hc
        obtain ⟨i, _, rfl⟩ := List.mem_map.mp hp
        have := nL_dig hd
        omega
    omega
  refine ⟨.rt (.tuple (hs.map .int)), ?_, rfl⟩
  refine (ev_guard (b := decide (T (hrW hs) = Str.ofString "-")) (ev_eqs rfl rfl okh (by decide +kernel)) rfl).trans ?_
  by_cases z : hs = []
  · subst z
    rw [if_pos (decide_eq_true (str_ext (by rw [c_ds]; rfl)))]
    rfl
  · have hw : hrW hs = joinL [44] (hs.map nL) := if_neg z
    rw [decide_eq_false (fun e => hr_ne z (by
      have := congrArg (fun z : Str => z.cps.toList) e
      have this : hrW hs = (Str.ofString "-").cps.toList := this
      rw [← hw, this, c_ds])), if_neg (by decide)]
    rw [show SHrO.enc hs = [.str (T (hrW hs))] from rfl, hw]
    have es : ∀ ρ : Rho, ρ[0]? = some (some (.dat (.str (T (joinL [44] (hs.map nL)))))) → e2 splitD (eVar 0) (eC (PyData.str (Str.ofString ","))) ρ = some (.list ((hs.map nL).map fun p => .str (T p))) := fun ρ h => by
      refine ev_split (s := 44) c_co (by decide) (by unfold eVar; rw [h]) rfl (by simpa using z) (fun p hp => ?_) 7 (fun p hp => ?_) (by rw [List.length_map]; show hs.length * 8 ≤ _; omega)
      · obtain ⟨i, _, rfl⟩ := List.mem_map.mp hp
        exact nL_free (by decide)
      · obtain ⟨i, hi, rfl⟩ := List.mem_map.mp hp
        exact nL_len (hb i hi).2
    refine (ev_asg (d := .tuple (hs.map .int)) (ρ' := [some (.dat (.str (T (joinL [44] (hs.map nL))))), some (.dat (.tuple (hs.map .int))), none]) ?_ rfl).trans (ev_ret ?_)
    · refine ev_call1 (ev_cons (ev_lcE (items := (hs.map nL).map fun p => .str (T p)) ?_ ?_) rfl) rfl
      · show (e2 splitD (eVar 0) (eC (PyData.str (Str.ofString ","))) _).bind seqD = _
        rw [es _ rfl]
        rfl
      · rw [List.map_map]
        exact ev_lcG (e := (fun p => PyData.str (T p)) ∘ nL) (t := PyData.int) hs fun i hi => ⟨_, rfl, ev_call (ds := [nS i]) rfl rfl (Sem.of (S := SNumO) (x := i) (hb i hi))⟩
    · refine (ev_eif (b := false) (ev_oB (ev_e2 (a := .none) (b := .tuple (hs.map .int)) rfl rfl ?_))).trans rfl
      rw [in_tup rfl (okT fun d hd => by
        obtain ⟨i, _, rfl⟩ := List.mem_map.mp hd
        exact ok_int i)]
      congr 2
      rw [List.any_eq_false]
      intro d hd
      obtain ⟨i, _, rfl⟩ := List.mem_map.mp hd
      exact Bool.false_ne_true
/-! rows -/
def rowR : List D → D
  | [.list (k :: r)] => .tuple (k :: r.map numRd)
  | _ => .none
def SRowO : Sem (Str × List Int) := Sem.mk' (fun x => [.list (.str x.1 :: x.2.map nS)]) (fun x => (∀ i ∈ x.2, NmB i) ∧ x.2.length ≤ 5) (fun x => .tuple (.str x.1 :: x.2.map .int)) rowR fun x h => by
  show PyData.tuple (_ :: (x.2.map nS).map numRd) = _
  rw [List.map_map]
  congr 2
  exact List.map_congr_left fun i hi => numRd_n (h.1 i hi).1
theorem ok_rowO {f : Addr} {fd : FuncData} (F : Fun K "row_of" "row_of" s_row_of f fd) (m_tuple : mg "tuple" = none) (C_number_of : Cl P w K mg base 1 "number_of" ["word"] (spD 1 SNumO.f)) : FnOk P w K mg base CX0 2 f fd ["words"] (spD 1 SRowO.f) := by
  refine okFn F sc_row_of rfl fun cdv A outer s H E hr => ⟨_, (dSs_one (dS_ret (ps_ret (dE_callTy c_tuple (by rfl) m_tuple (by decide +kernel) (dA_cons (dE_op o_add (dE_sl (dE_var (μ := true) (pv 0)) dO_none (dO_some (dE_c (μ := true) pe_int))) (dE_lc (K := K) (p := (.nm 1)) (pe_lc (own := [("word", 1)]) (g := gP K (.nm 1)) rfl sc_row_of.nd (dI_seq (dE_sl (dE_var (μ := true) (pv 0)) (dO_some (dE_c (μ := true) pe_int)) dO_none)) (blkOk_by (own := [("word", 1)]) (N := ["words", "word"]) (sc := defScope s_row_of) (by decide +kernel)) (fun _ _ _ _ _ => (pg_name (i := 1) sc_row_of.nd rfl (.inl rfl))) (fun _ _ _ _ _ => dTs_nil) (fun _ _ _ _ _ => (dE_cl C_number_of (hr.mono (by omega)) (by rfl) (dA_cons (dE_var (μ := true) (pv 1)) (dA_nil (μ := true)))))))) (dA_nil (μ := true))))))), fun ds d l e => ?_⟩
  obtain ⟨⟨k, ns⟩, ⟨hb, hl⟩, rfl, rfl⟩ := Sem.get e
  refine ⟨.rt (.tuple (.str k :: ns.map .int)), ev_ret ?_, rfl⟩
  have hl : ns.length ≤ 5 := hl
  have c0 : ∀ xs : List D, cutD (PyData.str k :: xs) none (some 1) = [.str k] := fun xs => cut_to (xs := PyData.str k :: xs) (m := 1) (by simp)
  refine ev_call1 (ev_cons (ev_cat (xs := [.str k]) (ys := ns.map .int) ?_ (ev_lcE (items := ns.map nS) ?_ (ev_lcG (e := nS) (t := PyData.int) ns fun i hi => ⟨_, rfl, ev_call (ds := [nS i]) rfl rfl (Sem.of (S := SNumO) (x := i) (hb i hi))⟩)) (by rw [List.length_map]; show 1 + _ ≤ 1000; omega)) rfl) rfl
  · show some (PyData.list (cutD (PyData.str k :: ns.map nS) none (some 1))) = _
    rw [c0]
  · show some (cutD (PyData.str k :: ns.map nS) (some 1) none) = _
    rw [cut1]
    rfl
end
end Dl
namespace Dl
open PySem PySem.Spec PyProof.Rows L2 Rt TL
theorem pgs_stl {X : Cx} {e : Expr} {p : Pos} {t : TG} (h1 : PG X e t) (hs : (assignEach [.Starred e p] X.env).map (·.2) = [assign e X.env] := by rfl) : PGs X [.Starred e p] (gCons t gNil) := by
  refine ⟨fun pins s σ H vs us Q I r h => ?_⟩
  obtain ⟨v, vr, e1, h⟩ := h
  subst e1
  cases r with
  | cons r rr =>
    rw [hs]
    refine assignInOrder_cons (thn (h1.run pins s σ H _ _ _ I r h) fun _ s1 ⟨σ1, H1, I1, q1⟩ => ?_)
    obtain ⟨e2, q1⟩ := q1
    subst e2
    cases rr
    exact assignInOrder_nil ⟨σ1, H1, I1, q1⟩
def strL' (ws : List (List Nat)) : List D := ws.map fun p => .str (T p)
def prtR : List D → List D
  | a :: b :: c :: r => .tuple [a, numRd b, numRd c] :: prtR r
  | _ => []
def wayR : List D → D
  | [.list (a :: b :: .str c :: e :: r)] => .tuple [a, .tuple (prtR r), b, hrR c.cps.toList, numRd e]
  | _ => .none
def wyT (y : Wy) : List (List Nat) := [y.k.cps.toList, y.kp.cps.toList, hrW y.hs, nL y.w] ++ y.ps.flatMap prW
theorem prtR_p : ∀ {ps : List Pt}, (∀ p ∈ ps, PtB p) → prtR (strL' (ps.flatMap prW)) = ps.map Pt.d
  | [], _ => rfl
  | p :: ps, h => by
    have g := h p (by simp)
    have b1 := g.b p.l (by simp)
    have b2 := g.b p.g (by simp)
    have e : strL' ((p :: ps).flatMap prW) = .str p.k :: nS p.l :: nS p.g :: strL' (ps.flatMap prW) := by
      rw [List.flatMap_cons]
      rfl
    rw [e]
    show PyData.tuple [.str p.k, numRd (nS p.l), numRd (nS p.g)] :: prtR _ = _
    rw [numRd_n b1.1, numRd_n b2.1, prtR_p fun q hq => h q (by simp [hq])]
    rfl
def SWayO : Sem Wy := Sem.mk' (fun y => [.list (strL' (wyT y))]) WyB Wy.d wayR fun y h => by
  show PyData.tuple [.str y.k, .tuple (prtR (strL' (y.ps.flatMap prW))), .str y.kp, hrR (hrW y.hs), numRd (nS y.w)] = _
  rw [prtR_p h.ps, hrR_h h.h, numRd_n h.w.1]
  rfl
theorem chunk : ∀ (ps : List Pt), (List.range ps.length).map (fun i => ((strL' (ps.flatMap prW)).drop (3 * i)).take 3) = ps.map fun p => strL' (prW p)
  | [] => rfl
  | p :: ps => by
    have e : strL' ((p :: ps).flatMap prW) = strL' (prW p) ++ strL' (ps.flatMap prW) := by
      rw [List.flatMap_cons]
      exact List.map_append
    rw [List.length_cons, List.range_succ_eq_map, List.map_cons, List.map_map, e, List.map_cons, ← chunk ps]
    congr 1
theorem ranU_ok {j : Int} (h0 : 0 ≤ j) (h1 : j < 2 ^ 20) : ranU [.int 0, .int j, .int 3] = some (upD 0 3 ((j + 2) / 3).toNat) := if_pos ⟨rfl, rfl, h0, h1⟩
theorem flat_len (ps : List Pt) : (strL' (ps.flatMap prW)).length = 3 * ps.length := by
  unfold strL'
  rw [List.length_map, List.length_flatMap]
  have : (ps.map fun p => (prW p).length) = ps.map fun _ => 3 := rfl
  rw [this, List.map_const', List.sum_replicate_nat]
  omega
theorem cut_mid {xs : List D} {i : Nat} (h : 3 * i + 3 ≤ xs.length) : cutD xs (some ((3 * i : Nat) : Int)) (some ((3 * i + 3 : Nat) : Int)) = (xs.drop (3 * i)).take 3 := by
  unfold cutD
  rw [HT.sIx_nat, HT.sIx_nat, Nat.min_eq_left h, Nat.min_eq_left (by omega)]
  congr 1
  omega
section
variable {P : Program} {w : World} {K : PySem.W.Frag} {mg : Str → Option Value} {base : Heap}
theorem ok_wayO {f : Addr} {fd : FuncData} (F : Fun K "way_of" "way_of" s_way_of f fd) (m_len : mg "len" = none) (m_range : mg "range" = none) (m_tuple : mg "tuple" = none) (C_row_of : Cl P w K mg base 2 "row_of" ["words"] (spD 1 SRowO.f)) (C_hours_of : Cl P w K mg base 2 "hours_of" ["word"] (spD 1 SHrO.f)) (C_number_of : Cl P w K mg base 1 "number_of" ["word"] (spD 1 SNumO.f)) : FnOk P w K mg base CX0 3 f fd ["words"] (spD 1 SWayO.f) := by
  refine okFn F sc_way_of rfl fun cdv A outer s H E hr => ⟨_, (dSs_cons (dS_if (dT_cmp o_lt (dE_callB c_len (by rfl) m_len (by decide +kernel) (dA_cons (dE_var (μ := true) (pv 0)) (dA_nil (μ := true)))) (dE_c (μ := true) pe_int) (nomark _))
    (dSs_one (dS_ret (ps_ret (dE_c (μ := true) pe_non))))
    dSs_nil)
  (dSs_cons (dS_asgS (K := K) (n := 4) (ps := (.cons (.nm 1) (.cons (.nm 2) (.cons (.nm 3) (.cons (.nm 4) (.cons (.nm 5) .nil)))))) (ps_asg (dE_var (μ := true) (pv 0)) (pg_star (by rfl) (pgs_cons (pg_name (i := 1) sc_way_of.nd rfl (.inl rfl)) (pgs_cons (pg_name (i := 2) sc_way_of.nd rfl (.inl rfl)) (pgs_cons (pg_name (i := 3) sc_way_of.nd rfl (.inl rfl)) (pgs_cons (pg_name (i := 4) sc_way_of.nd rfl (.inl rfl)) (pgs_stl (pg_name (i := 5) sc_way_of.nd rfl (.inr rfl))))))))))
  (dSs_cons (dS_lc (K := K) (p := (.nm 7)) (ps_setLc (i := 6) (own := [("at", 7)]) (g := gP K (.nm 7)) rfl sc_way_of.nd rfl rfl (sw_true rfl rfl rfl (by decide +kernel)) (dI_ranU (by rfl) m_range (dA_cons (dE_c (μ := true) pe_int) (dA_cons (dE_callB c_len (by rfl) m_len (by decide +kernel) (dA_cons (dE_var (μ := true) (pv 5)) (dA_nil (μ := true)))) (dA_cons (dE_c (μ := true) pe_int) (dA_nil (μ := true)))))) (blkOk_by (own := [("at", 7)]) (N := ["words", "kind", "keeps", "hours", "wait", "rest", "parts", "at", "part"]) (sc := defScope s_way_of) (by decide +kernel)) (fun _ _ _ _ _ => (pg_name (i := 7) sc_way_of.nd rfl (.inl rfl))) (fun _ _ _ _ _ => dTs_nil) (fun _ _ _ _ _ => (dE_sl (dE_var (μ := true) (pv 5)) (dO_some (dE_var (μ := true) (pv 7))) (dO_some (dE_op o_add (dE_var (μ := true) (pv 7)) (dE_c (μ := true) pe_int)))))))
  (dSs_one (dS_ret (ps_ret (dE_tup (dA_cons (dE_var (μ := true) (pv 1)) (dA_cons (dE_callTy c_tuple (by rfl) m_tuple (by decide +kernel) (dA_cons (dE_lc (K := K) (p := (.nm 8)) (pe_lc (own := [("part", 8)]) (g := gP K (.nm 8)) rfl sc_way_of.nd (dI_seq (dE_var (μ := true) (pv 6))) (blkOk_by (own := [("part", 8)]) (N := ["words", "kind", "keeps", "hours", "wait", "rest", "parts", "at", "part"]) (sc := defScope s_way_of) (by decide +kernel)) (fun _ _ _ _ _ => (pg_name (i := 8) sc_way_of.nd rfl (.inl rfl))) (fun _ _ _ _ _ => dTs_nil) (fun _ _ _ _ _ => (dE_cl C_row_of (hr.mono (by omega)) (by rfl) (dA_cons (dE_var (μ := true) (pv 8)) (dA_nil (μ := true))))))) (dA_nil (μ := true)))) (dA_cons (dE_var (μ := true) (pv 2)) (dA_cons (dE_cl C_hours_of (hr.mono (by omega)) (by rfl) (dA_cons (dE_var (μ := true) (pv 3)) (dA_nil (μ := true)))) (dA_cons (dE_cl C_number_of (hr.mono (by omega)) (by rfl) (dA_cons (dE_var (μ := true) (pv 4)) (dA_nil (μ := true)))) (dA_nil (μ := true)))))))))))))), fun ds d l e => ?_⟩
  obtain ⟨y, hy, rfl, rfl⟩ := Sem.get e
  have hy : WyB y := hy
  have p3 := hy.p3
  let rest : List D := strL' (y.ps.flatMap prW)
  have lr : rest.length = 3 * y.ps.length := flat_len y.ps
  let R : Option LV → Rho := fun u => [some (.dat (.list (strL' (wyT y)))), some (.dat (.str y.k)), some (.dat (.str y.kp)), some (.dat (.str (T (hrW y.hs)))), some (.dat (nS y.w)), some (.dat (.list rest)), u, none, none]
  refine ⟨.rt y.d, ?_, rfl⟩
  have lw : (strL' (wyT y)).length = 4 + 3 * y.ps.length := by
    show (_ :: _ :: _ :: _ :: rest).length = _
    rw [List.length_cons, List.length_cons, List.length_cons, List.length_cons, lr]
    omega
  refine (ev_guard (b := false) ?_ rfl).trans ?_
  · refine ev_oB (ev_e2 (a := .int (strL' (wyT y)).length) (b := .int 4) rfl rfl ?_)
    show some (PyData.bool (decide (((strL' (wyT y)).length : Int) < 4))) = _
    rw [decide_eq_false (by omega)]
  refine (ev_asgS (ds := strL' (wyT y)) (ρ' := R none) rfl ?_).trans ?_
  · unfold bindSt
    rw [if_pos ⟨by omega, by omega⟩]
    rfl
  refine (ev_asg (d := .list (y.ps.map fun p => .list (strL' (prW p)))) (ρ' := R (some (.dat (.list (y.ps.map fun p => .list (strL' (prW p))))))) ?_ rfl).trans (ev_ret ?_)
  · refine ev_lcE (items := (List.range y.ps.length).map fun (i : Nat) => PyData.int ((0 : Int) + (i : Int) * 3)) ?_ ?_
    · refine (ev_itG (ds := [.int 0, .int rest.length, .int 3]) rfl ?_)
      rw [ranU_ok (by omega) (by omega), show (((rest.length : Int) + 2) / 3).toNat = y.ps.length by omega]
      rfl
    · have ck := congrArg (List.map PyData.list) (chunk y.ps)
      rw [List.map_map, List.map_map] at ck
      rw [show (y.ps.map fun p => PyData.list (strL' (prW p))) = (List.range y.ps.length).map (fun i => PyData.list ((rest.drop (3 * i)).take 3)) from ck.symm]
      refine ev_lcG (e := fun (i : Nat) => PyData.int ((0 : Int) + (i : Int) * 3)) (t := fun i => PyData.list ((rest.drop (3 * i)).take 3)) (List.range y.ps.length) fun i hi => ⟨_, rfl, ?_⟩
      have hi := List.mem_range.mp hi
      refine ev_sl (d := .list rest) (l := some ((3 * i : Nat) : Int)) (h := some ((3 * i + 3 : Nat) : Int)) rfl ?_ ?_ ?_
      · show some (some ((0 : Int) + (i : Int) * 3)) = _
        congr 2
        omega
      · show some (some ((0 : Int) + (i : Int) * 3 + 3)) = _
        congr 2
        omega
      · show some (PyData.list (cutD rest _ _)) = _
        rw [cut_mid (by omega)]
  · refine ev_tupX (ev_cons (d := .str y.k) rfl (ev_cons (d := .tuple (y.ps.map Pt.d)) (ev_call1 (ev_cons (ev_lcE (items := y.ps.map fun p => .list (strL' (prW p))) rfl (ev_lcG (e := fun p => PyData.list (strL' (prW p))) (t := Pt.d) y.ps fun p hp => ⟨_, rfl, ?_⟩)) rfl) rfl) (ev_cons (d := .str y.kp) rfl (ev_cons (d := .tuple (y.hs.map .int)) (ev_call (ds := [.str (T (hrW y.hs))]) rfl rfl (Sem.of (S := SHrO) (x := y.hs) ⟨hy.h, hy.hl⟩)) (ev_cons (d := .int y.w) (ev_call (ds := [nS y.w]) rfl rfl (Sem.of (S := SNumO) (x := y.w) hy.w)) rfl))))) (by show 5 ≤ 1000; decide)
    have g := hy.ps p hp
    refine ev_call (ds := [.list (strL' (prW p))]) rfl rfl (Sem.of (S := SRowO) (x := (p.k, [p.l, p.g])) ⟨fun i hi => ?_, by show 2 ≤ 5; decide⟩)
    exact g.b i hi
end
end Dl
namespace Dl
open PySem PySem.Spec PyProof.Rows L2 Rt TL
theorem let_ge : ∀ c ∈ LET, 97 ≤ c := by decide +kernel
theorem nm_free {z : Str} (h : NmG z) {s : Nat} (hs : s < 97) : s ∉ z.cps.toList := fun m => by
  have := let_ge s (h.2.2 s m)
  omega
theorem kp_free {z : Str} (h : z = Str.ofString "oldest" ∨ z = Str.ofString "youngest") : 32 ∉ z.cps.toList ∧ 10 ∉ z.cps.toList := by
  rcases h with rfl | rfl <;> decide +kernel
theorem jl_free {S : List Nat} {s : Nat} (hS : s ∉ S) : ∀ {ps : List (List Nat)}, (∀ p ∈ ps, s ∉ p) → s ∉ joinL S ps
  | [], _ => fun m => nomatch m
  | [p], h => h p (by simp)
  | p :: q :: r, h => fun m => by
    rcases List.mem_append.mp (show s ∈ p ++ (S ++ joinL S (q :: r)) from m) with m | m
    · exact h p (by simp) m
    · rcases List.mem_append.mp m with m | m
      · exact hS m
      · exact jl_free hS (fun x hx => h x (by simp [hx])) m
theorem hr_free {hs : List Int} {s : Nat} (h : s < 44) : s ∉ hrW hs := by
  unfold hrW
  split
  · simp; omega
  · exact jl_free (by simp; omega) fun p hp => by
      obtain ⟨i, _, rfl⟩ := List.mem_map.mp hp
      exact nL_free (by omega)
theorem src_free {x : Sr} (h : SrB x) {s : Nat} (hs : s = 32 ∨ s = 10) : ∀ p ∈ srcW x, s ∉ p := fun p hp => by
  unfold srcW at hp
  simp only [List.mem_cons, List.not_mem_nil, or_false] at hp
  rcases hp with rfl | rfl | rfl | rfl | rfl | rfl
  · rcases hs with rfl | rfl <;> decide +kernel
  · exact nm_free h.k (by omega)
  all_goals exact nL_free (by omega)
theorem wy_free {y : Wy} (h : WyB y) {s : Nat} (hs : s = 32 ∨ s = 10) : ∀ p ∈ wyW y, s ∉ p := fun p hp => by
  rcases List.mem_append.mp hp with hp | hp
  · simp only [List.mem_cons, List.not_mem_nil, or_false] at hp
    rcases hp with rfl | rfl | rfl | rfl | rfl
    · rcases hs with rfl | rfl <;> decide +kernel
    · exact nm_free h.k (by omega)
    · have := kp_free h.kp
      rcases hs with rfl | rfl
      · exact this.1
      · exact this.2
    · exact hr_free (by omega)
    · exact nL_free (by omega)
  · obtain ⟨q, hq, hp⟩ := List.mem_flatMap.mp hp
    have g := h.ps q hq
    unfold prW at hp
    simp only [List.mem_cons, List.not_mem_nil, or_false] at hp
    rcases hp with rfl | rfl | rfl
    · exact nm_free g.k (by omega)
    all_goals exact nL_free (by omega)
theorem rnd_free {n : Int} {s : Nat} (hs : s = 32 ∨ s = 10) : ∀ p ∈ [cs "round", nL n], s ∉ p := fun p hp => by
  simp only [List.mem_cons, List.not_mem_nil, or_false] at hp
  rcases hp with rfl | rfl
  · rcases hs with rfl | rfl <;> decide +kernel
  · exact nL_free (by omega)
theorem knd_free {zs : List Str} (h : ∀ z ∈ zs, NmG z) {s : Nat} (hs : s = 32 ∨ s = 10) : ∀ p ∈ cs "kinds" :: zs.map (fun z => z.cps.toList), s ∉ p := fun p hp => by
  rcases List.mem_cons.mp hp with rfl | hp
  · rcases hs with rfl | rfl <;> decide +kernel
  · obtain ⟨z, hz, rfl⟩ := List.mem_map.mp hp
    exact nm_free (h z hz) (by omega)
theorem ln_sp {ws : List (List Nat)} (ne : ws ≠ []) (h : ∀ p ∈ ws, 32 ∉ p) : spl [32] 0 [] (ln ws).cps.toList = ws := spl_join ne h
/-! a line more -/
def W0 : Wd := ⟨1, [Str.ofString "a"], [], []⟩
def K0 (n : Int) : Wd := ⟨n, [Str.ofString "a"], [], []⟩
inductive Lc
  | r (n : Int)
  | k (n : Int) (zs : List Str)
  | s (X : Wd) (j : Nat) (x : Sr)
  | w (X : Wd) (j : Nat) (y : Wy)
def Lc.enc : Lc → List D
  | .r n => [W0.d, .int 0, .str (ln [cs "round", nL n])]
  | .k n zs => [(K0 n).d, .int 1, .str (ln (cs "kinds" :: zs.map fun z => z.cps.toList))]
  | .s X j x => [X.d, .int (j : Nat), .str (ln (srcW x))]
  | .w X j y => [X.d, .int (j : Nat), .str (ln (wyW y))]
def Lc.ok : Lc → Prop
  | .r n => NmB n
  | .k n zs => (∀ z ∈ zs, NmG z) ∧ zs.length ≤ 4
  | .s X j x => 2 ≤ j ∧ SrB x ∧ X.ss.length ≤ 6
  | .w X j y => 2 ≤ j ∧ WyB y ∧ X.ws.length ≤ 8
def Lc.res : Lc → Wd
  | .r n => K0 n
  | .k n zs => ⟨n, zs, [], []⟩
  | .s X j x => ⟨X.n, X.ks, X.ss ++ [x], X.ws⟩
  | .w X j y => ⟨X.n, X.ks, X.ss, X.ws ++ [y]⟩
def withR : List D → D
  | [.tuple [sp, ks, .tuple ss, .tuple ws], .int j, .str l] => if j = 0 then .tuple [numR ((spl [32] 0 [] l.cps.toList).getD 1 []), ks, .tuple ss, .tuple ws] else if j = 1 then .tuple [sp, .tuple (strL' (spl [32] 0 [] l.cps.toList).tail), .tuple ss, .tuple ws]
    else if (spl [32] 0 [] l.cps.toList).headD [] = cs "source" then .tuple [sp, ks, .tuple (ss ++ [rowR [.list (strL' (spl [32] 0 [] l.cps.toList).tail)]]), .tuple ws]
    else .tuple [sp, ks, .tuple ss, .tuple (ws ++ [wayR [.list (strL' (spl [32] 0 [] l.cps.toList).tail)]])]
  | _ => .none
theorem cs_ne : cs "way" ≠ cs "source" := by decide +kernel
theorem row_d {x : Sr} (h : SrB x) : rowR [.list (strL' (srcW x).tail)] = x.d := by
  show PyData.tuple (.str x.k :: [nS x.a, nS x.p, nS x.s, nS x.m].map numRd) = _
  rw [List.map_cons, List.map_cons, List.map_cons, List.map_cons, numRd_n (h.b x.a (by simp)).1, numRd_n (h.b x.p (by simp)).1, numRd_n (h.b x.s (by simp)).1, numRd_n (h.b x.m (by simp)).1]
  rfl
theorem way_d {y : Wy} (h : WyB y) : wayR [.list (strL' (wyW y).tail)] = y.d := by
  show PyData.tuple [.str y.k, .tuple (prtR (strL' (y.ps.flatMap prW))), .str y.kp, hrR (hrW y.hs), numRd (nS y.w)] = _
  rw [prtR_p h.ps, hrR_h h.h, numRd_n h.w.1]
  rfl
theorem withR_ok : ∀ c : Lc, c.ok → withR c.enc = c.res.d
  | .r n, h => by
    show PyData.tuple [numR ((spl [32] 0 [] (ln [cs "round", nL n]).cps.toList).getD 1 []), .tuple (W0.ks.map .str), .tuple [], .tuple []] = _
    rw [ln_sp (by simp) (rnd_free (.inl rfl))]
    show PyData.tuple [numR (nL n), _, _, _] = _
    rw [numR_n h.1]
    rfl
  | .k n zs, h => by
    show PyData.tuple [.int n, .tuple (strL' (spl [32] 0 [] (ln (cs "kinds" :: zs.map fun z => z.cps.toList)).cps.toList).tail), .tuple [], .tuple []] = _
    rw [ln_sp (by simp) (knd_free h.1 (.inl rfl))]
    show PyData.tuple [.int n, .tuple (strL' (zs.map fun z => z.cps.toList)), _, _] = _
    unfold strL'
    rw [List.map_map]
    rfl
  | .s X j x, h => by
    obtain ⟨h2, hx, _⟩ := h
    show (if ((j : Nat) : Int) = 0 then _ else if ((j : Nat) : Int) = 1 then _ else if (spl [32] 0 [] (ln (srcW x)).cps.toList).headD [] = cs "source" then PyData.tuple [.int X.n, .tuple (X.ks.map .str), .tuple (X.ss.map Sr.d ++ [rowR [.list (strL' (spl [32] 0 [] (ln (srcW x)).cps.toList).tail)]]), .tuple (X.ws.map Wy.d)] else _) = _
    rw [if_neg (by omega), if_neg (by omega), ln_sp (by unfold srcW; simp) (src_free hx (.inl rfl)), if_pos (show (srcW x).headD [] = cs "source" from rfl), row_d hx]
    show _ = PyData.tuple [_, _, .tuple ((X.ss ++ [x]).map Sr.d), _]
    rw [List.map_append]
    rfl
  | .w X j y, h => by
    obtain ⟨h2, hy, _⟩ := h
    show (if ((j : Nat) : Int) = 0 then _ else if ((j : Nat) : Int) = 1 then _ else if (spl [32] 0 [] (ln (wyW y)).cps.toList).headD [] = cs "source" then _ else PyData.tuple [.int X.n, .tuple (X.ks.map .str), .tuple (X.ss.map Sr.d), .tuple (X.ws.map Wy.d ++ [wayR [.list (strL' (spl [32] 0 [] (ln (wyW y)).cps.toList).tail)]])]) = _
    rw [if_neg (by omega), if_neg (by omega), ln_sp (by unfold wyW; simp) (wy_free hy (.inl rfl)), if_neg (show ¬ (wyW y).headD [] = cs "source" from cs_ne), way_d hy]
    show _ = PyData.tuple [_, _, _, .tuple ((X.ws ++ [y]).map Wy.d)]
    rw [List.map_append]
    rfl
def SWth : Sem Lc := Sem.mk' Lc.enc Lc.ok (fun c => c.res.d) withR withR_ok
theorem ev_skip {c : Rho → Option Bool} {f g : Rho → Option Out} {ρ : Rho} (hc : c ρ = some false) : sSeq (sIf c f sNil) g ρ = g ρ := (ev_if hc).trans rfl
theorem ev_eqi {f g : EF} {ρ : Rho} {a b : Int} (hf : f ρ = some (.int a)) (hg : g ρ = some (.int b)) : oB (e2 eqD f g) ρ = some (decide (a = b)) := by
  refine ev_oB (ev_e2 hf hg ?_)
  show some (PyData.bool (a == b)) = _
  congr 2
section
variable {P : Program} {w : World} {K : PySem.W.Frag} {mg : Str → Option Value} {base : Heap}
theorem ok_wth {f : Addr} {fd : FuncData} (F : Fun K "with_line" "with_line" s_with_line f fd) (m_tuple : mg "tuple" = none) (C_number_of : Cl P w K mg base 1 "number_of" ["word"] (spD 1 SNumO.f)) (C_row_of : Cl P w K mg base 2 "row_of" ["words"] (spD 1 SRowO.f)) (C_way_of : Cl P w K mg base 3 "way_of" ["words"] (spD 1 SWayO.f)) : FnOk P w K mg base CX0 4 f fd ["world", "number", "line"] (spD 3 SWth.f) := by
  refine okFn F sc_with_line rfl fun cdv A outer s H E hr => ⟨_, (dSs_cons (dS_asg (K := K) (p := (.tp (.cons (.nm 3) (.cons (.nm 4) (.cons (.nm 5) (.cons (.nm 6) .nil)))))) (ps_asg (dE_var (μ := true) (pv 0)) (pg_tup (by rfl) (pgs_cons (pg_name (i := 3) sc_with_line.nd rfl (.inl rfl)) (pgs_cons (pg_name (i := 4) sc_with_line.nd rfl (.inl rfl)) (pgs_cons (pg_name (i := 5) sc_with_line.nd rfl (.inl rfl)) (pgs_cons (pg_name (i := 6) sc_with_line.nd rfl (.inl rfl)) pgs_nil)))))))
  (dSs_cons (dS_asgS (K := K) (n := 1) (ps := (.cons (.nm 7) (.cons (.nm 8) .nil))) (ps_asg (dE_split (dE_var (μ := true) (pv 2)) (dE_c (μ := true) pe_str)) (pg_star (by rfl) (pgs_cons (pg_name (i := 7) sc_with_line.nd rfl (.inl rfl)) (pgs_stl (pg_name (i := 8) sc_with_line.nd rfl (.inl rfl)))))))
  (dSs_cons (dS_if (dT_cmp (o_eq hr.units) (dE_var (μ := true) (pv 1)) (dE_c (μ := true) pe_int) (nomark _))
    (dSs_one (dS_ret (ps_ret (dE_tup (dA_cons (dE_cl C_number_of (hr.mono (by omega)) (by rfl) (dA_cons (dE_join (dE_c (μ := true) pe_str) (dE_var (μ := true) (pv 8))) (dA_nil (μ := true)))) (dA_cons (dE_var (μ := true) (pv 4)) (dA_cons (dE_var (μ := true) (pv 5)) (dA_cons (dE_var (μ := true) (pv 6)) (dA_nil (μ := true))))))))))
    dSs_nil)
  (dSs_cons (dS_if (dT_cmp (o_eq hr.units) (dE_var (μ := true) (pv 1)) (dE_c (μ := true) pe_int) (nomark _))
    (dSs_one (dS_ret (ps_ret (dE_tup (dA_cons (dE_var (μ := true) (pv 3)) (dA_cons (dE_callTy c_tuple (by rfl) m_tuple (by decide +kernel) (dA_cons (dE_var (μ := true) (pv 8)) (dA_nil (μ := true)))) (dA_cons (dE_var (μ := true) (pv 5)) (dA_cons (dE_var (μ := true) (pv 6)) (dA_nil (μ := true))))))))))
    dSs_nil)
  (dSs_cons (dS_if (dT_cmp (o_eq hr.units) (dE_var (μ := true) (pv 7)) (dE_c (μ := true) pe_str) (nomark _))
    (dSs_one (dS_ret (ps_ret (dE_tup (dA_cons (dE_var (μ := true) (pv 3)) (dA_cons (dE_var (μ := true) (pv 4)) (dA_cons (dE_op o_add (dE_var (μ := true) (pv 5)) (dE_tup (dA_cons (dE_cl C_row_of (hr.mono (by omega)) (by rfl) (dA_cons (dE_var (μ := true) (pv 8)) (dA_nil (μ := true)))) (dA_nil (μ := true))))) (dA_cons (dE_var (μ := true) (pv 6)) (dA_nil (μ := true))))))))))
    dSs_nil)
  (dSs_one (dS_ret (ps_ret (dE_tup (dA_cons (dE_var (μ := true) (pv 3)) (dA_cons (dE_var (μ := true) (pv 4)) (dA_cons (dE_var (μ := true) (pv 5)) (dA_cons (dE_op o_add (dE_var (μ := true) (pv 6)) (dE_tup (dA_cons (dE_cl C_way_of (hr.mono (by omega)) (by rfl) (dA_cons (dE_var (μ := true) (pv 8)) (dA_nil (μ := true)))) (dA_nil (μ := true))))) (dA_nil (μ := true))))))))))))))), fun ds d l e => ?_⟩
  obtain ⟨c, hc, rfl, rfl⟩ := Sem.get e
  refine ⟨.rt c.res.d, ?_, rfl⟩
  have hd : ∀ (X : Wd) (j : Nat) (ws : List (List Nat)) (a : List Nat) (r : List (List Nat)), ws = a :: r → (∀ p ∈ ws, 32 ∉ p) → (∀ p ∈ ws, p.length ≤ 48) → ws.length ≤ 14 → ∀ G : Rho → Option Out, sSeq (sAsg (.tp (.cons (.nm 3) (.cons (.nm 4) (.cons (.nm 5) (.cons (.nm 6) .nil))))) (eVar 0)) (sSeq (sAsgS 1 (.cons (.nm 7) (.cons (.nm 8) .nil)) (e2 splitD (eVar 2) (eC (PyData.str (Str.ofString " "))))) G)
      [some (.dat X.d), some (.dat (.int (j : Nat))), some (.dat (.str (ln ws))), none, none, none, none, none, none] = G [some (.dat X.d), some (.dat (.int (j : Nat))), some (.dat (.str (ln ws))), some (.dat (.int X.n)), some (.dat (.tuple (X.ks.map .str))), some (.dat (.tuple (X.ss.map Sr.d))), some (.dat (.tuple (X.ws.map Wy.d))), some (.dat (.str (T a))), some (.dat (.list (strL' r)))] := fun X j ws a r e h1 h2 h3 G => by
    subst e
    refine (ev_asg rfl rfl).trans (ev_asgS (ds := strL' (a :: r)) (ev_split (s := 32) c_sp (by decide) rfl rfl (List.cons_ne_nil _ _) h1 48 h2 (by omega)) ?_)
    unfold bindSt
    have : (strL' (a :: r)).length ≤ 14 := by unfold strL'; rw [List.length_map]; exact h3
    rw [if_pos ⟨by show 1 ≤ _ + 1; omega, by omega⟩]
    rfl
  cases c with
  | r n =>
    have hn : NmB n := hc
    refine (hd W0 0 _ _ _ rfl (rnd_free (.inl rfl)) (fun p hp => ?_) (by show 2 ≤ 14; decide) _).trans ?_
    · have e : (cs "round").length ≤ 48 := by decide +kernel
      have := nL_len hn.2
      simp only [List.mem_cons, List.not_mem_nil, or_false] at hp
      rcases hp with rfl | rfl <;> omega
    refine (ev_guard (b := true) ((ev_eqi rfl rfl).trans (congrArg some (decide_eq_true rfl))) (ev_tupX (ev_cons (d := .int n) (ev_call (ds := [nS n]) (ev_cons (ev_join (ys := [T (nL n)]) rfl (.inl rfl) 7 (fun y hy => ?_) (by show 1 * (7 + 1) ≤ 1000000; decide)) rfl) rfl (Sem.of (S := SNumO) (x := n) hn)) (ev_cons rfl (ev_cons rfl (ev_cons rfl rfl)))) (by show 4 ≤ 1000; decide))).trans rfl
    rw [List.mem_singleton.mp hy, T_len]
    exact nL_len hn.2
  | k n zs =>
    obtain ⟨hz, h4⟩ : (∀ z ∈ zs, NmG z) ∧ zs.length ≤ 4 := hc
    refine (hd (K0 n) 1 _ _ _ rfl (knd_free hz (.inl rfl)) (fun p hp => ?_) (by rw [List.length_cons, List.length_map]; omega) _).trans ?_
    · rcases List.mem_cons.mp hp with rfl | hp
      · decide +kernel
      · obtain ⟨z, hz', rfl⟩ := List.mem_map.mp hp
        have := nm_len (hz z hz')
        omega
    refine (ev_skip ((ev_eqi rfl rfl).trans (congrArg some (decide_eq_false (by decide))))).trans ?_
    refine (ev_guard (b := true) ((ev_eqi rfl rfl).trans (congrArg some (decide_eq_true rfl))) (ev_tupX (ev_cons rfl (ev_cons (d := .tuple (zs.map .str)) (ev_call1 (ev_cons rfl rfl) ?_) (ev_cons rfl (ev_cons rfl rfl)))) (by show 4 ≤ 1000; decide))).trans rfl
    show some (PyData.tuple (strL' (zs.map fun z => z.cps.toList))) = _
    unfold strL'
    rw [List.map_map]
    rfl
  | s X j x =>
    obtain ⟨h2, hx, h6⟩ : 2 ≤ j ∧ SrB x ∧ X.ss.length ≤ 6 := hc
    refine (hd X j _ _ _ rfl (src_free hx (.inl rfl)) (src_len hx) (by show 6 ≤ 14; decide) _).trans ?_
    refine (ev_skip ((ev_eqi rfl rfl).trans (congrArg some (decide_eq_false (by omega))))).trans ?_
    refine (ev_skip ((ev_eqi rfl rfl).trans (congrArg some (decide_eq_false (by omega))))).trans ?_
    refine (ev_guard (b := true) ((ev_eqs (a := T (cs "source")) (b := Str.ofString "source") rfl rfl (by decide +kernel) (by decide +kernel)).trans (congrArg some (decide_eq_true rfl))) (ev_tupX (ev_cons rfl (ev_cons rfl (ev_cons (d := .tuple ((X.ss ++ [x]).map Sr.d)) (ev_e2 (a := .tuple (X.ss.map Sr.d)) (b := .tuple [x.d]) rfl (ev_tupX (ev_cons (ev_call (ds := [.list (strL' (srcW x).tail)]) rfl rfl (Sem.of (S := SRowO) (x := (x.k, [x.a, x.p, x.s, x.m])) ⟨fun i hi => hx.b i hi, by show 4 ≤ 5; decide⟩)) rfl) (by show 1 ≤ 1000; decide)) ?_) (ev_cons rfl rfl)))) (by show 4 ≤ 1000; decide))).trans rfl
    show (if _ then _ else none) = _
    rw [if_pos (by rw [List.length_map]; exact sz (by show _ + 1 ≤ _; omega)), List.map_append]
    rfl
  | w X j y =>
    obtain ⟨h2, hy, h8⟩ : 2 ≤ j ∧ WyB y ∧ X.ws.length ≤ 8 := hc
    have wl := wy_len hy
    refine (hd X j _ _ _ rfl (wy_free hy (.inl rfl)) wl.1 wl.2 _).trans ?_
    refine (ev_skip ((ev_eqi rfl rfl).trans (congrArg some (decide_eq_false (by omega))))).trans ?_
    refine (ev_skip ((ev_eqi rfl rfl).trans (congrArg some (decide_eq_false (by omega))))).trans ?_
    refine (ev_skip ((ev_eqs (a := T (cs "way")) (b := Str.ofString "source") rfl rfl (by decide +kernel) (by decide +kernel)).trans (congrArg some (decide_eq_false fun e => cs_ne (congrArg (fun z : Str => z.cps.toList) e))))).trans (ev_ret ?_)
    refine ev_tupX (ev_cons rfl (ev_cons rfl (ev_cons rfl (ev_cons (d := .tuple ((X.ws ++ [y]).map Wy.d)) (ev_e2 (a := .tuple (X.ws.map Wy.d)) (b := .tuple [y.d]) rfl (ev_tupX (ev_cons (ev_call (ds := [.list (strL' (wyT y))]) rfl rfl (Sem.of (S := SWayO) (x := y) hy)) rfl) (by show 1 ≤ 1000; decide)) ?_) rfl)))) (by show 4 ≤ 1000; decide)
    show (if _ then _ else none) = _
    rw [if_pos (by rw [List.length_map]; exact sz (by show _ + 1 ≤ _; omega)), List.map_append]
    rfl
end
end Dl
namespace Dl
open PySem PySem.Spec PyProof.Rows L2 Rt TL
/-! ### a true world has no fault -/
def Ok (n : Nat) (d : D) : Prop := okD d = true ∧ d.depth ≤ n
theorem Ok.tup {n : Nat} (hn : n ≤ 62) {ds : List D} (h : ∀ d ∈ ds, Ok n d) : Ok (n + 1) (.tuple ds) := ⟨okT fun d hd => ⟨(h d hd).1, Nat.le_trans (h d hd).2 (by omega)⟩, Nat.succ_le_succ (all_depth fun d hd => (h d hd).2)⟩
theorem Ok.int (i : Int) (n : Nat) : Ok n (.int i) := ⟨rfl, Nat.zero_le _⟩
theorem Ok.str {z : Str} (h : PyData.strOk z = true) (n : Nat) : Ok n (.str z) := ⟨okD_str h, Nat.zero_le _⟩
theorem Ok.up {n m : Nat} {d : D} (h : Ok n d) (l : n ≤ m) : Ok m d := ⟨h.1, Nat.le_trans h.2 l⟩
theorem ok_nm {z : Str} (h : NmG z) : PyData.strOk z = true := ok_of_let h.2.2
theorem kp_ok {z : Str} (h : z = Str.ofString "oldest" ∨ z = Str.ofString "youngest") : PyData.strOk z = true := by
  rcases h with rfl | rfl <;> decide +kernel
theorem ks_ok {zs : List Str} (h : ∀ z ∈ zs, NmG z) : Ok 1 (.tuple (zs.map .str)) := Ok.tup (n := 0) (by decide) fun d hd => by
  obtain ⟨z, hz, rfl⟩ := List.mem_map.mp hd
  exact Ok.str (ok_nm (h z hz)) 0
theorem sr_ok {n : Int} {ks : List Str} (hk : ∀ z ∈ ks, NmG z) {s : Sr} (h : s.ok n ks) : Ok 1 s.d := Ok.tup (n := 0) (by decide) fun d hd => by
  simp only [List.mem_cons, List.not_mem_nil, or_false] at hd
  rcases hd with rfl | rfl | rfl | rfl | rfl
  · exact Ok.str (ok_nm (hk _ h.k)) 0
  all_goals exact Ok.int _ _
theorem pt_ok {ks : List Str} (hk : ∀ z ∈ ks, NmG z) {p : Pt} (h : p.ok ks) : Ok 1 p.d := Ok.tup (n := 0) (by decide) fun d hd => by
  simp only [List.mem_cons, List.not_mem_nil, or_false] at hd
  rcases hd with rfl | rfl | rfl
  · exact Ok.str (ok_nm (hk _ h.k)) 0
  all_goals exact Ok.int _ _
theorem wy_ok {n : Int} {ks : List Str} (hk : ∀ z ∈ ks, NmG z) {y : Wy} (h : y.ok n ks) : Ok 3 y.d := Ok.tup (n := 2) (by decide) fun d hd => by
  simp only [List.mem_cons, List.not_mem_nil, or_false] at hd
  rcases hd with rfl | rfl | rfl | rfl | rfl
  · exact Ok.str (ok_nm (hk _ h.k)) 2
  · exact Ok.tup (n := 1) (by decide) fun d hd => by
      obtain ⟨p, hp, rfl⟩ := List.mem_map.mp hd
      exact pt_ok hk (h.ps p hp)
  · exact Ok.str (kp_ok h.kp) 2
  · exact (Ok.tup (n := 0) (by decide) fun d hd => by
      obtain ⟨p, hp, rfl⟩ := List.mem_map.mp hd
      exact Ok.int _ _).up (by decide)
  · exact Ok.int _ _
theorem wd_ok {X : Wd} (h : X.ok) : Ok 5 X.d := Ok.tup (n := 4) (by decide) fun d hd => by
  simp only [List.mem_cons, List.not_mem_nil, or_false] at hd
  rcases hd with rfl | rfl | rfl | rfl
  · exact Ok.int _ _
  · exact (ks_ok h.kg).up (by decide)
  · exact (Ok.tup (n := 1) (by decide) fun d hd => by
      obtain ⟨s, hs, rfl⟩ := List.mem_map.mp hd
      exact sr_ok h.kg (h.ss s hs)).up (by decide)
  · exact Ok.tup (n := 3) (by decide) fun d hd => by
      obtain ⟨y, hy, rfl⟩ := List.mem_map.mp hd
      exact wy_ok h.kg (h.ws y hy)
theorem firstF_all {pre : List D} {f : D → D} : ∀ (ds : List D) (k : Nat), (∀ d ∈ ds, f d = .none) → Dx.firstF pre f k ds = .none
  | [], _, _ => rfl
  | d :: ds, k, h => (Dx.firstF_none (h d (by simp))).trans (firstF_all ds (k + 1) fun x hx => h x (by simp [hx]))
theorem firstG_all {g : Nat → D → Option D} : ∀ (xs : List D) (k : Nat), (∀ j x, xs[j]? = some x → g (k + j) x = none) → Dx.firstG g k xs = none
  | [], _, _ => rfl
  | x :: xs, k, h => (Dx.firstG_no (h 0 x rfl)).trans (firstG_all xs (k + 1) fun j y hy => by
    have := h (j + 1) y (by simpa using hy)
    rw [show k + 1 + j = k + (j + 1) by omega]
    exact this)
theorem kind_in {ks : List Str} {z : Str} (h : z ∈ ks) : Dx.kindIn (ks.map .str) (.str z) = true := by
  unfold Dx.kindIn
  rw [List.any_map, List.any_eq_true]
  exact ⟨z, h, by show PyData.eqv (.str z) (.str z) = true; rw [eqv_str]; exact decide_eq_true rfl⟩
theorem from_in {lo hi i : Int} (h1 : lo ≤ i) (h2 : i ≤ hi) : Dx.isFrom lo hi (.int i) = true := by
  show (decide (lo ≤ i) && decide (i ≤ hi)) = true
  simp [h1, h2]
theorem row_in {lo hi : Int} {ds : List D} (h1 : lo ≤ ds.length) (h2 : (ds.length : Int) ≤ hi) : Dx.isRow lo hi (.tuple ds) = true := by
  show (decide (lo ≤ ds.length) && decide ((ds.length : Int) ≤ hi)) = true
  simp [h1, h2]
theorem ris_pw : ∀ {l : List Int}, l.Pairwise (· < ·) → Dx.ris l = true
  | [], _ => rfl
  | [a], _ => rfl
  | a :: b :: r, h => by
    have h1 := List.pairwise_cons.mp h
    have ih := ris_pw h1.2
    unfold Dx.ris at ih ⊢
    show (decide (a < b) && ((b :: r).zip ((b :: r).drop 1)).all fun p => decide (p.1 < p.2)) = true
    rw [ih, decide_eq_true (h1.1 b (by simp))]
    rfl
theorem nm_is {z : Str} (h : NmG z) : Dx.isName (.str z) = true := by
  show (decide (1 ≤ (z.length : Int)) && decide ((z.length : Int) ≤ 8) && z.cps.toList.all fun c => decide (c ∈ Dx.LET)) = true
  obtain ⟨h1, h8, hl⟩ := h
  have ha : (z.cps.toList.all fun c => decide (c ∈ Dx.LET)) = true := List.all_eq_true.mpr fun c hc => decide_eq_true (show c ∈ Dx.LET from hl c hc)
  rw [decide_eq_true (by omega), decide_eq_true (by omega), ha]
  rfl
theorem ints_map : ∀ ns : List Int, intsD (ns.map .int) = some ns
  | [] => rfl
  | n :: ns => by
    show (intsD (ns.map .int)).map _ = _
    rw [ints_map ns]
    rfl
theorem hs_len : ∀ {hs : List Int} {lo n : Int}, hs.Pairwise (· < ·) → (∀ h ∈ hs, lo ≤ h ∧ h < n) → hs = [] ∨ (hs.length : Int) ≤ n - lo
  | [], _, _, _, _ => .inl rfl
  | a :: r, lo, n, hp, hb => by
    have h1 := List.pairwise_cons.mp hp
    have b := hb a (by simp)
    rcases hs_len (lo := a + 1) (n := n) h1.2 (fun h hh => ⟨by have := h1.1 h hh; omega, (hb h (by simp [hh])).2⟩) with e | e
    · subst e
      refine .inr ?_
      show ((0 + 1 : Nat) : Int) ≤ _
      omega
    · refine .inr ?_
      rw [List.length_cons]
      omega
theorem wf_none {X : Wd} (h : X.ok) : Dx.worldF X.d = .none := by
  have k1 := h.k1; have k4 := h.k4; have sl := h.sl; have wl := h.wl
  have e1 : Dx.kindsF (.tuple (X.ks.map .str)) = .none := by
    show (if Dx.isRow 1 4 (.tuple (X.ks.map .str)) = false then _ else Dx.orN (Dx.firstG (Dx.gK (X.ks.map .str)) 0 (X.ks.map .str))) = _
    rw [row_in (by rw [List.length_map]; omega) (by rw [List.length_map]; omega), if_neg (by decide), firstG_all]
    · rfl
    · intro j x hx
      rw [Nat.zero_add]
      rw [List.getElem?_map] at hx
      obtain ⟨z, hz, rfl⟩ := Option.map_eq_some_iff.mp hx
      refine if_neg ?_
      show ¬ (!Dx.isName (.str z) || (decide (0 < j) && !(match (X.ks.map PyData.str)[j - 1]? with | some y => Dx.ltS y (.str z) | none => false))) = true
      rw [nm_is (h.kg z (List.mem_of_getElem? hz))]
      by_cases hj : 0 < j
      · have hl := (List.getElem?_eq_some_iff.mp hz).1
        obtain ⟨u, hu⟩ : ∃ u, X.ks[j - 1]? = some u := ⟨_, List.getElem?_eq_getElem (by omega)⟩
        have lt : u.cps.toList < z.cps.toList := by
          have := List.pairwise_iff_getElem.mp h.kr (j - 1) j (by omega) hl (by omega)
          rw [List.getElem?_eq_getElem (by omega)] at hu
          rw [List.getElem?_eq_getElem hl] at hz
          cases hu
          cases hz
          exact this
        rw [List.getElem?_map, hu]
        show ¬ (!true || (decide (0 < j) && !decide (u.cps.toList < z.cps.toList))) = true
        rw [decide_eq_true lt]
        simp
      · rw [decide_eq_false hj]
        simp
  have e2 : Dx.srcsF X.n (X.ks.map .str) (.tuple (X.ss.map Sr.d)) = .none := by
    show (if Dx.isRow 0 6 (.tuple (X.ss.map Sr.d)) = false then _ else Dx.firstF _ _ 0 (X.ss.map Sr.d)) = _
    rw [row_in (by omega) (by rw [List.length_map]; omega), if_neg (by decide)]
    refine firstF_all _ _ fun d hd => ?_
    obtain ⟨s, hs, rfl⟩ := List.mem_map.mp hd
    have o := h.ss s hs
    have p1 := o.p1
    show (if Dx.kindIn (X.ks.map .str) (.str s.k) = false then _ else if Dx.isFrom 0 20 (.int s.a) = false then _ else if Dx.isFrom 0 (X.n - 1) (.int s.p) = false then _ else if Dx.isFrom 0 1000000 (.int s.s) = false then _ else if Dx.isFrom 1 9 (.int s.m) = false then _ else PyData.none) = _
    rw [kind_in o.k, from_in o.a0 o.a1, from_in o.p0 (by omega), from_in o.s0 o.s1, from_in o.m0 o.m1]
    rfl
  have e3 : Dx.waysF X.n (X.ks.map .str) (.tuple (X.ws.map Wy.d)) = .none := by
    show (if Dx.isRow 0 8 (.tuple (X.ws.map Wy.d)) = false then _ else Dx.firstF _ _ 0 (X.ws.map Wy.d)) = _
    rw [row_in (by omega) (by rw [List.length_map]; omega), if_neg (by decide)]
    refine firstF_all _ _ fun d hd => ?_
    obtain ⟨y, hy, rfl⟩ := List.mem_map.mp hd
    have o := h.ws y hy
    have q1 := o.p1; have q3 := o.p3; have n6 := h.n6; have n1 := h.n1
    have ep : Dx.partsF (X.ks.map .str) (.tuple (y.ps.map Pt.d)) = .none := by
      show (if Dx.isRow 1 3 (.tuple (y.ps.map Pt.d)) = false then _ else Dx.firstF _ _ 0 (y.ps.map Pt.d)) = _
      rw [row_in (by rw [List.length_map]; omega) (by rw [List.length_map]; omega), if_neg (by decide)]
      refine firstF_all _ _ fun d hd => ?_
      obtain ⟨p, hp, rfl⟩ := List.mem_map.mp hd
      have q := o.ps p hp
      have g1 := q.g1; have lg := q.lg
      show (if Dx.kindIn (X.ks.map .str) (.str p.k) = false then _ else if Dx.isFrom 0 20 (.int p.l) = false then _ else if Dx.isFrom p.l 20 (.int p.g) = false then _ else PyData.none) = _
      rw [kind_in q.k, from_in q.l0 (by omega), from_in q.lg q.g1]
      rfl
    have ek : Dx.keepsOk (.str y.kp) = true := by
      rcases o.kp with e | e <;> rw [e] <;> decide +kernel
    have eh : Dx.hoursOk X.n (.tuple (y.hs.map .int)) = true := by
      show (Dx.isRow 0 X.n (.tuple (y.hs.map .int)) && ((y.hs.map PyData.int).all (Dx.isFrom 0 (X.n - 1)) && (match intsD (y.hs.map PyData.int) with | some ns => Dx.ris ns | none => false))) = true
      have ll : (y.hs.length : Int) ≤ X.n := by
        rcases hs_len (lo := 0) o.asc o.hs with a | a
        · rw [a]; show (0 : Int) ≤ _; omega
        · omega
      rw [row_in (by omega) (by rw [List.length_map]; exact ll), ints_map]
      show (true && ((y.hs.map PyData.int).all (Dx.isFrom 0 (X.n - 1)) && Dx.ris y.hs)) = true
      rw [ris_pw o.asc, List.all_eq_true.mpr fun d hd => by
        obtain ⟨i, hi, rfl⟩ := List.mem_map.mp hd
        have := o.hs i hi
        exact from_in this.1 (by omega)]
      rfl
    show (if Dx.kindIn (X.ks.map .str) (.str y.k) = false then _ else match Dx.partsF (X.ks.map .str) (.tuple (y.ps.map Pt.d)) with | .none => if Dx.keepsOk (.str y.kp) = false then _ else if Dx.hoursOk X.n (.tuple (y.hs.map .int)) = false then _ else if Dx.isFrom 1 6 (.int y.w) = false then _ else PyData.none | d => _) = _
    rw [kind_in o.k, ep, ek, eh, from_in o.w0 o.w1]
    rfl
  show (if Dx.isFrom 1 6 (.int X.n) = false then _ else Dx.orF (Dx.kindsF (.tuple (X.ks.map .str))) (Dx.orF (Dx.srcsF X.n (X.ks.map .str) (.tuple (X.ss.map Sr.d))) (Dx.waysF X.n (X.ks.map .str) (.tuple (X.ws.map Wy.d))))) = _
  rw [from_in h.n1 h.n6, e1, e2, e3]
  rfl
end Dl
namespace Dl
open PySem PySem.Spec PyProof.Rows L2 Rt TL
/-! ### a text read back -/
theorem jl_all {S : List Nat} {Pc : Nat → Prop} (hS : ∀ c ∈ S, Pc c) : ∀ {ps : List (List Nat)}, (∀ p ∈ ps, ∀ c ∈ p, Pc c) → ∀ c ∈ joinL S ps, Pc c
  | [], _ => fun c m => nomatch m
  | [p], h => h p (by simp)
  | p :: q :: r, h => fun c m => by
    rcases List.mem_append.mp (show c ∈ p ++ (S ++ joinL S (q :: r)) from m) with m | m
    · exact h p (by simp) c m
    · rcases List.mem_append.mp m with m | m
      · exact hS c m
      · exact jl_all hS (fun x hx => h x (by simp [hx])) c m
theorem let_128 : ∀ c ∈ LET, c < 128 := by decide +kernel
theorem nm_128 {z : Str} (h : NmG z) : ∀ c ∈ z.cps.toList, c < 128 := fun c hc => let_128 c (h.2.2 c hc)
theorem nL_128 {i : Int} : ∀ c ∈ nL i, c < 128 := fun c hc => by
  have := nL_dig hc
  omega
theorem kp_128 {z : Str} (h : z = Str.ofString "oldest" ∨ z = Str.ofString "youngest") : ∀ c ∈ z.cps.toList, c < 128 := by
  rcases h with rfl | rfl <;> decide +kernel
theorem hr_128 {hs : List Int} : ∀ c ∈ hrW hs, c < 128 := by
  unfold hrW
  split
  · decide
  · exact jl_all (by decide) fun p hp => by
      obtain ⟨i, _, rfl⟩ := List.mem_map.mp hp
      exact nL_128
theorem ln_ok {ws : List (List Nat)} (h : ∀ p ∈ ws, ∀ c ∈ p, c < 128) : PyData.strOk (ln ws) = true := strOk_iff.mpr fun c hc => by
  have : c < 128 := jl_all (S := [32]) (by decide) h c hc
  omega
theorem lns_ok {X : Wd} (h : WdB X) : ∀ z ∈ lns X, PyData.strOk z = true ∧ 10 ∉ z.cps.toList := fun z hz => by
  have f : ∀ {ws : List (List Nat)}, (∀ p ∈ ws, 10 ∉ p) → 10 ∉ (ln ws).cps.toList := fun h => jl_free (S := [32]) (by decide) h
  unfold lns at hz
  rcases List.mem_cons.mp hz with rfl | hz
  · refine ⟨ln_ok fun p hp => ?_, f (rnd_free (.inr rfl))⟩
    simp only [List.mem_cons, List.not_mem_nil, or_false] at hp
    rcases hp with rfl | rfl
    · decide +kernel
    · exact nL_128
  · rcases List.mem_cons.mp hz with rfl | hz
    · refine ⟨ln_ok fun p hp => ?_, f (knd_free h.ks (.inr rfl))⟩
      rcases List.mem_cons.mp hp with rfl | hp
      · decide +kernel
      · obtain ⟨z, hz, rfl⟩ := List.mem_map.mp hp
        exact nm_128 (h.ks z hz)
    · rcases List.mem_append.mp hz with hz | hz
      · obtain ⟨s, hs, rfl⟩ := List.mem_map.mp hz
        refine ⟨ln_ok fun p hp => ?_, f (src_free (h.ss s hs) (.inr rfl))⟩
        unfold srcW at hp
        simp only [List.mem_cons, List.not_mem_nil, or_false] at hp
        rcases hp with rfl | rfl | rfl | rfl | rfl | rfl
        · decide +kernel
        · exact nm_128 (h.ss s hs).k
        all_goals exact nL_128
      · obtain ⟨y, hy, rfl⟩ := List.mem_map.mp hz
        have g := h.ws y hy
        refine ⟨ln_ok fun p hp => ?_, f (wy_free g (.inr rfl))⟩
        rcases List.mem_append.mp hp with hp | hp
        · simp only [List.mem_cons, List.not_mem_nil, or_false] at hp
          rcases hp with rfl | rfl | rfl | rfl | rfl
          · decide +kernel
          · exact nm_128 g.k
          · exact kp_128 g.kp
          · exact hr_128
          · exact nL_128
        · obtain ⟨q, hq, hp⟩ := List.mem_flatMap.mp hp
          unfold prW at hp
          simp only [List.mem_cons, List.not_mem_nil, or_false] at hp
          rcases hp with rfl | rfl | rfl
          · exact nm_128 (g.ps q hq).k
          all_goals exact nL_128
/-- what the first lines tell -/
def pre (X : Wd) : Nat → Wd
  | 0 => W0
  | 1 => K0 X.n
  | j + 2 => ⟨X.n, X.ks, X.ss.take j, X.ws.take (j - X.ss.length)⟩
theorem a_good : NmG (Str.ofString "a") := ⟨by decide +kernel, by decide +kernel, by decide +kernel⟩
theorem k0_ok {n : Int} (h1 : 1 ≤ n) (h6 : n ≤ 6) : (K0 n).ok where
  n1 := h1
  n6 := h6
  k1 := by show 1 ≤ 1; decide
  k4 := by show 1 ≤ 4; decide
  ks := fun z hz => by
    rw [List.mem_singleton.mp hz]
    exact ⟨by decide +kernel, by decide +kernel⟩
  kg := fun z hz => by
    rw [List.mem_singleton.mp hz]
    exact a_good
  kr := List.pairwise_singleton ..
  sl := by show 0 ≤ 6; decide
  ss := fun s hs => nomatch hs
  wl := by show 0 ≤ 8; decide
  ws := fun s hs => nomatch hs
theorem pre_ok {X : Wd} (h : X.ok) : ∀ j, (pre X j).ok
  | 0 => k0_ok (n := 1) (by decide) (by decide)
  | 1 => k0_ok h.n1 h.n6
  | j + 2 => ⟨h.n1, h.n6, h.k1, h.k4, h.ks, h.kg, h.kr, Nat.le_trans (List.length_take_le' ..) h.sl, fun s hs => h.ss s (List.mem_of_mem_take hs), Nat.le_trans (List.length_take_le' ..) h.wl, fun s hs => h.ws s (List.mem_of_mem_take hs)⟩
theorem pre_all (X : Wd) : pre X (lns X).length = X := by
  have e : (lns X).length = X.ss.length + X.ws.length + 2 := by
    unfold lns
    rw [List.length_cons, List.length_cons, List.length_append, List.length_map, List.length_map]
  rw [e]
  show (⟨X.n, X.ks, X.ss.take (X.ss.length + X.ws.length), X.ws.take (X.ss.length + X.ws.length - X.ss.length)⟩ : Wd) = X
  rw [List.take_of_length_le (by omega), List.take_of_length_le (by omega)]
theorem tk_succ {α : Type} {xs : List α} {j : Nat} {x : α} (h : xs[j]? = some x) : xs.take (j + 1) = xs.take j ++ [x] := by
  rw [List.take_succ, h]
  rfl
theorem pre_step {X : Wd} (hB : WdB X) : ∀ (j : Nat) (z : Str), (lns X)[j]? = some z → ∃ c : Lc, c.ok ∧ c.enc = [(pre X j).d, .int (j : Nat), .str z] ∧ c.res = pre X (j + 1)
  | 0, z, h => by
    cases h
    exact ⟨.r X.n, hB.n, rfl, rfl⟩
  | 1, z, h => by
    cases h
    refine ⟨.k X.n X.ks, ⟨hB.ks, hB.k4⟩, rfl, ?_⟩
    show (⟨X.n, X.ks, [], []⟩ : Wd) = ⟨X.n, X.ks, X.ss.take 0, X.ws.take (0 - X.ss.length)⟩
    rw [show 0 - X.ss.length = 0 by omega, List.take_zero, List.take_zero]
  | j + 2, z, h => by
    have s6 := hB.s6
    have w8 := hB.w8
    have h : (X.ss.map (fun s => ln (srcW s)) ++ X.ws.map fun y => ln (wyW y))[j]? = some z := h
    by_cases hj : j < X.ss.length
    · rw [List.getElem?_append_left (by rw [List.length_map]; exact hj), List.getElem?_map] at h
      obtain ⟨s, hs, rfl⟩ := Option.map_eq_some_iff.mp h
      refine ⟨.s (pre X (j + 2)) (j + 2) s, ⟨by omega, hB.ss s (List.mem_of_getElem? hs), Nat.le_trans (List.length_take_le' ..) s6⟩, rfl, ?_⟩
      show (⟨X.n, X.ks, X.ss.take j ++ [s], X.ws.take (j - X.ss.length)⟩ : Wd) = ⟨X.n, X.ks, X.ss.take (j + 1), X.ws.take (j + 1 - X.ss.length)⟩
      rw [tk_succ hs, show j - X.ss.length = j + 1 - X.ss.length by omega]
    · rw [List.getElem?_append_right (by rw [List.length_map]; omega), List.length_map, List.getElem?_map] at h
      obtain ⟨y, hy, rfl⟩ := Option.map_eq_some_iff.mp h
      refine ⟨.w (pre X (j + 2)) (j + 2) y, ⟨by omega, hB.ws y (List.mem_of_getElem? hy), Nat.le_trans (List.length_take_le' ..) w8⟩, rfl, ?_⟩
      show (⟨X.n, X.ks, X.ss.take j, X.ws.take (j - X.ss.length) ++ [y]⟩ : Wd) = ⟨X.n, X.ks, X.ss.take (j + 1), X.ws.take (j + 1 - X.ss.length)⟩
      rw [show j + 1 - X.ss.length = j - X.ss.length + 1 by omega, tk_succ hy, List.take_of_length_le (show X.ss.length ≤ j by omega), List.take_of_length_le (show X.ss.length ≤ j + 1 by omega)]
theorem pre_line (X : Wd) : ∀ (j : Nat) (z : Str), (lns X)[j]? = some z → (lns (pre X (j + 1)))[j]? = some z
  | 0, z, h => h
  | 1, z, h => h
  | j + 2, z, h => by
    have h : (X.ss.map (fun s => ln (srcW s)) ++ X.ws.map fun y => ln (wyW y))[j]? = some z := h
    show ((X.ss.take (j + 1)).map (fun s => ln (srcW s)) ++ (X.ws.take (j + 1 - X.ss.length)).map fun y => ln (wyW y))[j]? = some z
    by_cases hj : j < X.ss.length
    · rw [List.getElem?_append_left (by rw [List.length_map]; exact hj), List.getElem?_map] at h
      rw [List.getElem?_append_left (by rw [List.length_map, List.length_take]; omega), List.getElem?_map, List.getElem?_take_of_lt (by omega)]
      exact h
    · rw [List.getElem?_append_right (by rw [List.length_map]; omega), List.length_map, List.getElem?_map] at h
      rw [List.take_of_length_le (show X.ss.length ≤ j + 1 by omega), List.getElem?_append_right (by rw [List.length_map]; omega), List.length_map, List.getElem?_map, List.getElem?_take_of_lt (by omega)]
      exact h
theorem txt_sp {X : Wd} (h : WdB X) : spl [10] 0 [] (txt X).cps.toList = (lns X).map fun z => z.cps.toList := spl_join (by unfold lns; simp) fun p hp => by
  obtain ⟨z, hz, rfl⟩ := List.mem_map.mp hp
  exact (lns_ok h z hz).2
end Dl
namespace Dl
open PySem PySem.Spec PyProof.Rows L2 Rt TL
def rdGo : List (List Nat) → Nat → D → D
  | [], _, d => d
  | l :: ls, j, d => rdGo ls (j + 1) (withR [d, .int (j : Nat), .str (T l)])
theorem rd_go {X : Wd} (h : WdB X) : ∀ k j, j + k = (lns X).length → rdGo (((lns X).drop j).map fun z => z.cps.toList) j (pre X j).d = X.d
  | 0, j, e => by
    rw [List.drop_of_length_le (by omega)]
    show (pre X j).d = X.d
    rw [show j = (lns X).length by omega, pre_all]
  | k + 1, j, e => by
    obtain ⟨z, hz⟩ : ∃ z, (lns X)[j]? = some z := ⟨_, List.getElem?_eq_getElem (by omega)⟩
    obtain ⟨c, c1, c2, c3⟩ := pre_step h j z hz
    rw [drop_at hz]
    show rdGo _ (j + 1) (withR [(pre X j).d, .int (j : Nat), .str z]) = _
    rw [← c2, withR_ok c c1, c3]
    exact rd_go h k (j + 1) (by omega)
def SRdw : Sem Wd := Sem.mk' (fun X => [.str (txt X)]) (fun X => X.ok) Wd.d (fun ds => match ds with | [.str t] => rdGo (spl [10] 0 [] t.cps.toList) 0 W0.d | _ => .none) fun X h => by
  show rdGo (spl [10] 0 [] (txt X).cps.toList) 0 W0.d = _
  rw [txt_sp (wd_b h)]
  exact rd_go (wd_b h) (lns X).length 0 (by omega)
theorem ev_enL {p : Pat} {body : Rho → Option Out} {xs : List D} (I : Nat → Rho → Prop) (hb : ∀ (j : Nat) x ρ, xs[j]? = some x → I j ρ → ∃ ρ1 ρ2, bindP p (.tuple [.int (j : Nat), x]) ρ = some ρ1 ∧ body ρ1 = some (.nx ρ2) ∧ I (j + 1) ρ2) : ∀ k j ρ, j + k = xs.length → I j ρ → ∃ ρ', forGo p body (enGo j (xs.drop j)) ρ = some (.nx ρ') ∧ I xs.length ρ'
  | 0, j, ρ, e, i => by
    rw [List.drop_of_length_le (by omega)]
    exact ⟨ρ, rfl, by rw [← e]; exact i⟩
  | k + 1, j, ρ, e, i => by
    obtain ⟨x, hx⟩ : ∃ x, xs[j]? = some x := ⟨_, List.getElem?_eq_getElem (by omega)⟩
    obtain ⟨ρ1, ρ2, e1, e2, i2⟩ := hb j x ρ hx i
    obtain ⟨ρ', e3, i3⟩ := ev_enL I hb k (j + 1) ρ2 (by omega) i2
    rw [drop_at hx]
    exact ⟨ρ', (ev_forC e1 e2).trans e3, i3⟩
theorem ev_forI {α : Type} {p : Pat} {body : Rho → Option Out} {e : α → D} (I : List α → Rho → Prop) (hs : ∀ x xs ρ, I (x :: xs) ρ → ∃ ρ1 ρ2, bindP p (e x) ρ = some ρ1 ∧ body ρ1 = some (.nx ρ2) ∧ I xs ρ2) : ∀ (xs : List α) (ρ : Rho), I xs ρ → ∃ ρ', forGo p body (xs.map e) ρ = some (.nx ρ') ∧ I [] ρ'
  | [], ρ, i => ⟨ρ, rfl, i⟩
  | x :: xs, ρ, i => by
    obtain ⟨ρ1, ρ2, e1, e2, i2⟩ := hs x xs ρ i
    obtain ⟨ρ', e3, i3⟩ := ev_forI I hs xs ρ2 i2
    exact ⟨ρ', (ev_forC e1 e2).trans e3, i3⟩
theorem ev_addT {f g : EF} {ρ : Rho} {a b : List Nat} (hf : f ρ = some (.str (T a))) (hg : g ρ = some (.str (T b))) (h : a.length + b.length ≤ 10000) : e2 addD f g ρ = some (.str (T (a ++ b))) := by
  refine ev_e2 hf hg ?_
  show (if (T a).length + (T b).length ≤ sizeLine then some (PyData.str (T a ++ T b)) else none) = _
  rw [if_pos (by rw [T_len, T_len]; exact sz (by omega)), show T a ++ T b = T (a ++ b) from str_ext (by rw [s_app]; rfl)]
theorem ev_strN {f : EF} {ρ : Rho} {i : Int} (hf : f ρ = some (.int i)) (h : NmB i) : eCall strD (aCons f aNil) ρ = some (.str (T (nL i))) := ev_call1 (ev_cons hf rfl) (strD_ok h.1 h.2)
theorem ev_neS {f g : EF} {ρ : Rho} {a : Str} (hf : f ρ = some (.str a)) (hg : g ρ = some (.str a)) (h1 : PyData.strOk a = true) : oB (e2 neD f g) ρ = some false := by
  refine ev_oB (ev_e2 hf hg ?_)
  unfold neD
  rw [if_pos (by rw [okD_str h1]; rfl), eqv_str, decide_eq_true rfl]
  rfl
theorem ev_oOrF {f g : Rho → Option Bool} {ρ : Rho} {b : Bool} (hf : f ρ = some false) (hg : g ρ = some b) : oOr f g ρ = some b := (ev_oOr hf).trans hg
theorem jl_tail {s : Nat} : ∀ (x : List Nat) (xs : List (List Nat)), joinL [s] (x :: xs) = x ++ (xs.map (s :: ·)).flatten
  | x, [] => by simp [joinL]
  | x, y :: ys => by
    show x ++ ([s] ++ joinL [s] (y :: ys)) = _
    rw [jl_tail y ys]
    simp
section
variable {P : Program} {w : World} {K : PySem.W.Frag} {mg : Str → Option Value} {base : Heap}
theorem ok_rdw {f : Addr} {fd : FuncData} {t1 : Tok} (F : Fun K "read_world" "read_world" s_read_world f fd) (m_isinstance : mg "isinstance" = none) (m_str : mg "str" = none) (m_len : mg "len" = none) (m_enumerate : mg "enumerate" = none) (g_LEAST_LINES : mg "LEAST_LINES" = some (.int 2 t1)) (C_with_line : Cl P w K mg base 4 "with_line" ["world", "number", "line"] (spD 3 SWth.f)) (C_worldfault : Cl P w K mg base 7 "worldfault" ["thing"] (spD 1 Dx.sWorldF)) (C_world_lines : Cl P w K mg base 2 "world_lines" ["world"] (spD 1 SLns.f)) : FnOk P w K mg base CX0 8 f fd ["text"] (spD 1 SRdw.f) := by
  refine okFn F sc_read_world rfl fun cdv A outer s H E hr => ⟨_, (dSs_cons (dS_if (dT_not (dT_val (dE_isi (dE_var (μ := true) (pv 0)) (pe_bltn (v := .ty "str") (by rfl) m_str (by decide +kernel) rfl) (by rfl) m_isinstance (by decide +kernel))))
    (dSs_one dS_no)
    dSs_nil)
  (dSs_cons (dS_asg (K := K) (p := .nm 1) (ps_set (i := 1) sc_read_world.nd rfl (.inl rfl) (dE_split (dE_var (μ := true) (pv 0)) (dE_c (μ := true) pe_str))))
  (dSs_cons (dS_asg (K := K) (p := .nm 2) (ps_set (i := 2) sc_read_world.nd rfl (.inl rfl) (dE_tup (dA_cons (dE_c (μ := true) pe_int) (dA_cons (dE_tup (dA_cons (dE_c (μ := true) pe_str) (dA_nil (μ := true)))) (dA_cons (dE_tup (dA_nil (μ := true))) (dA_cons (dE_tup (dA_nil (μ := true))) (dA_nil (μ := true)))))))))
  (dSs_cons (dS_for (K := K) (p := (.tp (.cons (.nm 3) (.cons (.nm 4) .nil)))) (ps_for PassesOwn.never rfl (dI_enum (by rfl) m_enumerate (dA_cons (dE_var (μ := true) (pv 1)) (dA_nil (μ := true)))) (pg_tup (by rfl) (pgs_cons (pg_name (i := 3) sc_read_world.nd rfl (.inl rfl)) (pgs_cons (pg_name (i := 4) sc_read_world.nd rfl (.inl rfl)) pgs_nil)))
    (dSs_cons (dS_asg (K := K) (p := .nm 2) (ps_set (i := 2) sc_read_world.nd rfl (.inl rfl) (dE_cl C_with_line (hr.mono (by omega)) (by rfl) (dA_cons (dE_var (μ := true) (pv 2)) (dA_cons (dE_var (μ := true) (pv 3)) (dA_cons (dE_var (μ := true) (pv 4)) (dA_nil (μ := true))))))))
  (dSs_one (dS_if (PW.pt (dW_or (dT_cmp o_isnot (dE_cl C_worldfault (hr.mono (by omega)) (by rfl) (dA_cons (dE_var (μ := true) (pv 2)) (dA_nil (μ := true)))) (dE_c (μ := true) pe_non) (nomark _)) (dW_or1 (dT_cmp (o_ne hr.units) (dE_ix (dE_cl C_world_lines (hr.mono (by omega)) (by rfl) (dA_cons (dE_var (μ := true) (pv 2)) (dA_nil (μ := true)))) (dE_var (μ := true) (pv 3))) (dE_var (μ := true) (pv 4)) (nomark _)))))
    (dSs_one dS_no)
    dSs_nil)))))
  (dSs_cons (dS_if (dT_cmp o_lt (dE_callB c_len (by rfl) m_len (by decide +kernel) (dA_cons (dE_var (μ := true) (pv 1)) (dA_nil (μ := true)))) (dE_c (μ := true) (pe_glob (v := .int 2) (by rfl) g_LEAST_LINES ⟨_, rfl⟩)) (nomark _))
    (dSs_one dS_no)
    dSs_nil)
  (dSs_one (dS_ret (ps_ret (dE_var (μ := true) (pv 2)))))))))), fun ds d l e => ?_⟩
  obtain ⟨X, hX, rfl, rfl⟩ := Sem.get e
  have hX : X.ok := hX
  have hB := wd_b hX
  have ll := lns_len hB
  let LD : D := .list ((lns X).map .str)
  let R : Option LV → Option LV → Option LV → Option LV → Rho := fun l w n i => [some (.dat (.str (txt X))), l, w, n, i]
  refine ⟨.rt X.d, ?_, rfl⟩
  refine (ev_skip (ev_not (b := true) (ev_oB (ev_e1 (a := .str (txt X)) rfl (Dx.isi_str _))))).trans ?_
  refine (ev_asg (d := LD) (ρ' := R (some (.dat LD)) none none none) ?_ rfl).trans ?_
  · refine (ev_split (s := 10) (ws := (lns X).map fun z => z.cps.toList) c_nl (by decide) rfl rfl (by unfold lns; simp) (fun p hp => ?_) 700 (fun p hp => ?_) (by rw [List.length_map]; have := ll.2; omega)).trans (by rw [List.map_map]; rfl)
    · obtain ⟨z, hz, rfl⟩ := List.mem_map.mp hp
      exact (lns_ok hB z hz).2
    · obtain ⟨z, hz, rfl⟩ := List.mem_map.mp hp
      rw [← s_len]
      exact ll.1 z hz
  refine (ev_asg (d := W0.d) (ρ' := R (some (.dat LD)) (some (.dat W0.d)) none none) (ev_tupX (ev_cons rfl (ev_cons (ev_tupX (ds := [.str (Str.ofString "a")]) (ev_cons rfl rfl) (by show 1 ≤ 1000; decide)) (ev_cons (ev_tupX (ds := []) rfl (by show 0 ≤ 1000; decide)) (ev_cons (ev_tupX (ds := []) rfl (by show 0 ≤ 1000; decide)) rfl)))) (by show 4 ≤ 1000; decide)) rfl).trans ?_
  obtain ⟨ρ', e1, a, b, rfl⟩ := ev_enL (p := .tp (.cons (.nm 3) (.cons (.nm 4) .nil))) (body := sSeq (sAsg (Pat.nm 2) (eCall (gN 3 SWth.f) (aCons (eVar 2) (aCons (eVar 3) (aCons (eVar 4) aNil))))) (sIf (oOr (oB (e2 noND (eCall (gN 1 Dx.sWorldF) (aCons (eVar 2) aNil)) (eC PyData.none))) (oB (e2 neD (e2 ixD (eCall (gN 1 SLns.f) (aCons (eVar 2) aNil)) (eVar 3)) (eVar 4)))) sNo sNil)) (xs := (lns X).map .str) (fun j ρ => ∃ a b, ρ = R (some (.dat LD)) (some (.dat (pre X j).d)) a b) (fun j x ρ hx i => by
    obtain ⟨a, b, rfl⟩ := i
    rw [List.getElem?_map] at hx
    obtain ⟨z, hz, rfl⟩ := Option.map_eq_some_iff.mp hx
    obtain ⟨c, c1, c2, c3⟩ := pre_step hB j z hz
    have po := pre_ok hX (j + 1)
    have pb := wd_b po
    have zo := (lns_ok hB z (List.mem_of_getElem? hz)).1
    let R2 : D → Rho := fun w => R (some (.dat LD)) (some (.dat w)) (some (.dat (.int (j : Nat)))) (some (.dat (.str z)))
    refine ⟨R2 (pre X j).d, R2 (pre X (j + 1)).d, rfl, ?_, _, _, rfl⟩
    refine (ev_asg (d := (pre X (j + 1)).d) (ρ' := R2 (pre X (j + 1)).d) (ev_call (ds := [(pre X j).d, .int (j : Nat), .str z]) rfl rfl ?_) rfl).trans ?_
    · rw [← c2, ← c3]
      exact Sem.of (S := SWth) (x := c) c1
    · refine (ev_ifR (b := false) (ev_oOrF (ev_oB (ev_e2 (a := .none) (b := .none) (ev_call (ds := [(pre X (j + 1)).d]) rfl rfl ?_) rfl rfl)) (ev_neS (a := z) (ev_e2 (a := .list ((lns (pre X (j + 1))).map .str)) (b := .int (j : Nat)) (ev_call (ds := [(pre X (j + 1)).d]) rfl rfl (Sem.of (S := SLns) (x := pre X (j + 1)) pb)) rfl (at_map (pre_line X j z hz))) rfl zo))).trans rfl
      show (if okD (pre X (j + 1)).d = true then some (Dx.worldF (pre X (j + 1)).d) else none) = _
      rw [if_pos (wd_ok po).1, wf_none po]) ((lns X).map PyData.str).length 0 (R (some (.dat LD)) (some (.dat W0.d)) none none) (by omega) ⟨none, none, rfl⟩
  rw [List.length_map, pre_all] at e1
  refine (ev_seq (ev_forS (items := enGo 0 ((lns X).map .str)) rfl e1)).trans ?_
  have l2 : 2 ≤ (lns X).length := by unfold lns; rw [List.length_cons, List.length_cons]; omega
  refine (ev_skip (ev_oB (ev_e2 (a := .int ((lns X).map PyData.str).length) (b := .int 2) rfl rfl ?_))).trans rfl
  show some (PyData.bool (decide ((((lns X).map PyData.str).length : Int) < 2))) = _
  rw [List.length_map, decide_eq_false (by omega)]
end
end Dl
namespace Dl
open PySem PySem.Spec PyProof.Rows L2 Rt TL
noncomputable def sAl (dp : D → Prop) : List D → Option D := fun ds => match ds with
  | [a, b] => @ite _ (a = b ∧ dp a) (Classical.propDecidable _) (some (.bool true)) none
  | _ => none
def dpA : Nat → D → Prop
  | 0, _ => False
  | n + 1, .tuple ds => ds.length ≤ 1000 ∧ ∀ d ∈ ds, dpA n d
  | n + 1, .list _ => False
  | n + 1, .dict _ => False
  | n + 1, .int _ => True
  | n + 1, .str z => PyData.strOk z = true
  | n + 1, _ => False
theorem sAl_ok {dp : D → Prop} {a : D} (h : dp a) : sAl dp [a, a] = some (.bool true) := by
  exact @if_pos _ (Classical.propDecidable _) ⟨rfl, h⟩ _ _ _
theorem ev_oAndT {f g : Rho → Option Bool} {ρ : Rho} {b : Bool} (h1 : f ρ = some true) (h2 : g ρ = some b) : oAnd f g ρ = some b := (ev_oAnd h1).trans h2
theorem ev_oAndF {f g : Rho → Option Bool} {ρ : Rho} (h1 : f ρ = some false) : oAnd f g ρ = some false := (ev_oAnd h1).trans rfl
theorem isiV {T : String} {i : Nat} {ρ : Rho} {d b : D} (h : eVar i ρ = some d) (ht : isTy T d = some b) : e1 (isTy T) (eVar i) ρ = some b := by
  unfold e1
  rw [h]
  exact ht
section
variable {P : Program} {w : World} {K : PySem.W.Frag} {mg : Str → Option Value} {base : Heap}
theorem ok_never {k n : Nat} {f : Addr} {fd : FuncData} {ps : List Str} {g : List D → Option D} (hg : ∀ ds, g ds = none) : FnOk P w K mg base CX0 k f fd ps (spD n g) :=
  ⟨fun vs H Q E h => by
    obtain ⟨M, ds, d, _, _, _, e, _⟩ := h
    rw [hg] at e
    exact (nomatch e), fun A outer s H args us vs Q E _ _ _ _ h => by
    obtain ⟨M, ds, d, _, _, _, e, _⟩ := h
    rw [hg] at e
    exact (nomatch e)⟩
theorem ok_alikeS {f : Addr} {fd : FuncData} {k n : Nat} (F : Fun K "_law_alike" "_law_alike" s_law_alike f fd) (m_isinstance : mg "isinstance" = none) (m_tuple : mg "tuple" = none) (m_bool : mg "bool" = none) (m_int : mg "int" = none) (m_len : mg "len" = none) (m_range : mg "range" = none)
    (C__law_alike : Cl P w K mg base k "_law_alike" ["_law_one", "_law_other"] (spD 2 (sAl (dpA n)))) : FnOk P w K mg base CX0 (k + 1) f fd ["_law_one", "_law_other"] (spD 2 (sAl (dpA (n + 1)))) := by
  refine okFn F sc_law_alike rfl fun cdv A outer s H E hr => ⟨_, (dSs_cons (dS_if (PW.pt (dW_and (dT_val (dE_isi (dE_var (μ := true) (pv 0)) (pe_bltn (v := .ty "tuple") (by rfl) m_tuple (by decide +kernel) rfl) (by rfl) m_isinstance (by decide +kernel))) (dW_and1 (dT_val (dE_isi (dE_var (μ := true) (pv 1)) (pe_bltn (v := .ty "tuple") (by rfl) m_tuple (by decide +kernel) rfl) (by rfl) m_isinstance (by decide +kernel))))))
    (dSs_cons (dS_if (dT_cmp (o_ne hr.units) (dE_callB c_len (by rfl) m_len (by decide +kernel) (dA_cons (dE_var (μ := true) (pv 0)) (dA_nil (μ := true)))) (dE_callB c_len (by rfl) m_len (by decide +kernel) (dA_cons (dE_var (μ := true) (pv 1)) (dA_nil (μ := true)))) (nomark _))
    (dSs_one (dS_ret (ps_ret (dE_c (μ := true) pe_bl))))
    dSs_nil)
  (dSs_one (dS_ret (ps_ret (dE_cmp (o_eq hr.units) (dE_lc (K := K) (p := (.nm 2)) (pe_lc (own := [("_law_k", 2)]) (g := gP K (.nm 2)) rfl sc_law_alike.nd (dI_ran1 (by rfl) m_range (dA_cons (dE_callB c_len (by rfl) m_len (by decide +kernel) (dA_cons (dE_var (μ := true) (pv 0)) (dA_nil (μ := true)))) (dA_nil (μ := true)))) (blkOk_by (own := [("_law_k", 2)]) (N := ["_law_one", "_law_other", "_law_k"]) (sc := defScope s_law_alike) (by decide +kernel)) (fun _ _ _ _ _ => (pg_name (i := 2) sc_law_alike.nd rfl (.inl rfl))) (fun _ _ _ _ _ => (pts_one (dT_not (dT_val (dE_cl C__law_alike (hr.mono (by omega)) (by rfl) (dA_cons (dE_ix (dE_var (μ := true) (pv 0)) (dE_var (μ := true) (pv 2))) (dA_cons (dE_ix (dE_var (μ := true) (pv 1)) (dE_var (μ := true) (pv 2))) (dA_nil (μ := true))))))))) (fun _ _ _ _ _ => (dE_var (μ := true) (pv 2))))) (dE_lst (dA_nil (μ := true))) (nomark _))))))
    dSs_nil)
  (dSs_cons (dS_if (dT_cmp (o_ne hr.units) (dE_isi (dE_var (μ := true) (pv 0)) (pe_bltn (v := .ty "bool") (by rfl) m_bool (by decide +kernel) rfl) (by rfl) m_isinstance (by decide +kernel)) (dE_isi (dE_var (μ := true) (pv 1)) (pe_bltn (v := .ty "bool") (by rfl) m_bool (by decide +kernel) rfl) (by rfl) m_isinstance (by decide +kernel)) (nomark _))
    (dSs_one (dS_ret (ps_ret (dE_c (μ := true) pe_bl))))
    dSs_nil)
  (dSs_one (dS_ret (ps_ret (dE_and (dE_cmp (o_eq hr.units) (dE_isi (dE_var (μ := true) (pv 0)) (pe_bltn (v := .ty "int") (by rfl) m_int (by decide +kernel) rfl) (by rfl) m_isinstance (by decide +kernel)) (dE_isi (dE_var (μ := true) (pv 1)) (pe_bltn (v := .ty "int") (by rfl) m_int (by decide +kernel) rfl) (by rfl) m_isinstance (by decide +kernel)) (nomark _)) (dE_one (dE_cmp (o_eq hr.units) (dE_var (μ := true) (pv 0)) (dE_var (μ := true) (pv 1)) (nomark _))))))))), fun ds d l e => ?_⟩
  match ds, e with
  | [a, b], e =>
    have e : @ite _ (a = b ∧ dpA (n + 1) a) (Classical.propDecidable _) (some (PyData.bool true)) none = some d := e
    by_cases hc : a = b ∧ dpA (n + 1) a
    · rw [if_pos hc] at e
      cases e
      obtain ⟨rfl, dp⟩ := hc
      refine ⟨.rt (.bool true), ?_, rfl⟩
      cases a with
      | tuple xs =>
        obtain ⟨xl, dp⟩ : xs.length ≤ 1000 ∧ ∀ d ∈ xs, dpA n d := dp
        refine (ev_if (b := true) (ev_oAndT (ev_oB (isiV rfl (Dx.isi_tuple _))) (ev_oB (isiV rfl (Dx.isi_tuple _))))).trans ?_
        rw [if_pos rfl]
        refine ev_seqR ((ev_skip (ev_oB (ev_e2 (a := .int xs.length) (b := .int xs.length) rfl rfl ?_))).trans (ev_ret (ev_e2 (a := .list []) (b := .list []) (ev_lcE (items := (List.range xs.length).map fun (i : Nat) => PyData.int ((0 : Int) + i)) (ev_itG (ds := [.int xs.length]) rfl (ran1_ok (by omega) (by omega))) ?_) rfl rfl)))
        · show some (PyData.bool (!((xs.length : Int) == xs.length))) = _
          rw [beq_self_eq_true]
          rfl
        · refine (ev_lcIf (i := 2) (k := fun _ => false) (t := id) (by show 2 < 3; decide) _ (fun x hx => ?_) (fun x hx h => nomatch h)).trans (by simp)
          obtain ⟨i, hi, rfl⟩ := List.mem_map.mp hx
          have hi := List.mem_range.mp hi
          obtain ⟨y, hy⟩ : ∃ y, xs[i]? = some y := ⟨_, List.getElem?_eq_getElem hi⟩
          have at1 : L2.atI xs ((0 : Int) + (i : Nat)) = some y := by
            rw [Int.zero_add]
            exact atI_nat hy
          exact ev_not (b := true) (ev_oB (ev_call (ds := [y, y]) (ev_cons (ev_e2 (a := .tuple xs) (b := .int ((0 : Int) + (i : Nat))) rfl rfl at1) (ev_cons (ev_e2 (a := .tuple xs) (b := .int ((0 : Int) + (i : Nat))) rfl rfl at1) rfl)) rfl (sAl_ok (dp y (List.mem_of_getElem? hy)))))
      | int i =>
        refine (ev_skip (ev_oAndF (ev_oB (isiV rfl (Dx.isi_tuple _))))).trans ?_
        refine (ev_skip (ev_oB (ev_e2 (a := .bool false) (b := .bool false) (isiV rfl (Dx.isi_bool _)) (isiV rfl (Dx.isi_bool _)) rfl))).trans ?_
        refine ev_ret (ev_and (b := true) (ev_e2 (a := .bool true) (b := .bool true) (isiV rfl (Dx.isi_int _)) (isiV rfl (Dx.isi_int _)) rfl) (fun _ => ev_e2 (a := .int i) (b := .int i) rfl rfl ?_) (fun z => by cases z))
        show some (PyData.bool (i == i)) = _
        rw [beq_self_eq_true]
      | str z =>
        have dp : PyData.strOk z = true := dp
        refine (ev_skip (ev_oAndF (ev_oB (isiV rfl (Dx.isi_tuple _))))).trans ?_
        refine (ev_skip (ev_oB (ev_e2 (a := .bool false) (b := .bool false) (isiV rfl (Dx.isi_bool _)) (isiV rfl (Dx.isi_bool _)) rfl))).trans ?_
        refine ev_ret (ev_and (b := true) (ev_e2 (a := .bool false) (b := .bool false) (isiV rfl (Dx.isi_int _)) (isiV rfl (Dx.isi_int _)) rfl) (fun _ => ev_e2 (a := .str z) (b := .str z) rfl rfl ?_) (fun z => by cases z))
        unfold eqD
        rw [if_pos (by rw [okD_str dp]; rfl), eqv_str, decide_eq_true rfl]
      | list xs => exact (dp : False).elim
      | dict xs => exact (dp : False).elim
      | none => exact (dp : False).elim
      | bool b => exact (dp : False).elim
    · rw [if_neg hc] at e
      cases e
theorem ok_alike {f : Addr} {fd : FuncData} (F : Fun K "_law_alike" "_law_alike" s_law_alike f fd) (b : Binds K fd ["_law_one", "_law_other"] []) (g : mg "_law_alike" = some (.ref f)) (m_isinstance : mg "isinstance" = none) (m_tuple : mg "tuple" = none) (m_bool : mg "bool" = none) (m_int : mg "int" = none) (m_len : mg "len" = none) (m_range : mg "range" = none) : FnOk P w K mg base CX0 6 f fd ["_law_one", "_law_other"] (spD 2 (sAl (dpA 6))) := by
  have s0 : FnOk P w K mg base CX0 0 f fd ["_law_one", "_law_other"] (spD 2 (sAl (dpA 0))) := ok_never fun ds => by
    unfold sAl
    split
    · exact @if_neg _ (Classical.propDecidable _) (fun h => h.2) _ _ _
    · rfl
  have s1 := ok_alikeS F m_isinstance m_tuple m_bool m_int m_len m_range ⟨f, fd, s0, g, F.kp, b⟩
  have s2 := ok_alikeS F m_isinstance m_tuple m_bool m_int m_len m_range ⟨f, fd, s1, g, F.kp, b⟩
  have s3 := ok_alikeS F m_isinstance m_tuple m_bool m_int m_len m_range ⟨f, fd, s2, g, F.kp, b⟩
  have s4 := ok_alikeS F m_isinstance m_tuple m_bool m_int m_len m_range ⟨f, fd, s3, g, F.kp, b⟩
  have s5 := ok_alikeS F m_isinstance m_tuple m_bool m_int m_len m_range ⟨f, fd, s4, g, F.kp, b⟩
  exact ok_alikeS F m_isinstance m_tuple m_bool m_int m_len m_range ⟨f, fd, s5, g, F.kp, b⟩
end
end Dl
namespace Dl
open PySem PySem.Spec PyProof.Rows L2 Rt
/-! ### dict(zip(s, t)) of two tuples -/
section
variable {prog : Program} {w : World} {A : Around} {E : Value → Shared → Prop} {s : Shared}
theorem zh_item {zc ti tO T j1 j2 m1 m2 : Addr} {fl : Bool} {oT : Obj} {k : Nat} {us vs : Array Value} {u v : Value} {Q : Option Value → Shared → Prop} (Z : ZipApart zc ti tO j1 j2 m1 m2) (hz : IsZipHeld s.heap zc ti tO T fl) (hT : s.heap.get? T = some oT) (hp : IsPair s.heap ti (.ref j1) (.ref j2))
    (h1 : s.heap.IsTupleIter j1 m1 k) (h2 : s.heap.IsTupleIter j2 m2 k) (t1 : s.heap.IsTuple m1 us) (t2 : s.heap.IsTuple m2 vs) (hu : us[k]? = some u) (hv : vs[k]? = some v)
    (q : ∀ g', IsZipHeld g' zc ti tO T true → g'.IsTupleIter j1 m1 (k + 1) → g'.IsTupleIter j2 m2 (k + 1) → IsPair g' s.heap.objs.size u v → (∀ c o, c ≠ zc → c ≠ j1 → c ≠ j2 → s.heap.get? c = some o → g'.get? c = some o) → Q (some (.ref s.heap.objs.size)) { s with heap := g' }) :
    wpAny (model prog w) A (pyNext (.ref zc)) Q E s := by
  have ty : s.TypeIs (.ref zc) "zip" := ⟨_, hz, rfl⟩
  unfold pyNext
  refine wpAny_bind (wpAny_attempt (wpAny_callSpecial?_slot (name := Str.ofString "__next__") ty F.slot_zip_next (wpAny_call_entry F.slot_zip_next ty F.entry_zip_next ?_ (F.args_zip_next_1 _))))
  show wpAny _ _ (field (.ref zc) 2 >>= _) _ _ _
  refine wpAny_bind (wpAny_field hz rfl (x := .bool false) rfl ?_); show wpAny _ _ (field (.ref zc) 3 >>= _) _ _ _
  refine wpAny_bind (wpAny_field hz rfl (x := .ref ti) rfl (wpAny_bind (wpAny_seqItems hp rfl ?_)))
  show wpAny _ _ (Builtin.SmallTypes.ownedTupleIsFree (.ref zc) >>= _) _ _ _
  refine wpAny_bind (wpAny_tupleHeld_zip hz hT fun g1 z1 b1 => ?_)
  simp only [Bool.false_eq_true, if_false]
  refine wpAny_bind ?_
  rw [← Array.forIn_toList]
  simp only [List.forIn_cons, List.forIn_nil]
  refine wpAny_bind (wpAny_bind (wpAny_holding ?_)); show wpAny _ _ (Builtin.SmallTypes.nextOf (.ref j1) >>= _) _ _ _
  refine wpAny_bind (RZ.nextOf_tuple_item (s := { s with heap := g1 }) (h1.extBut b1.extBut Z.i1z) (t1.extBut b1.extBut Z.l1z) hu fun g2 i2 b2 => wpAny_pure (wpAny_pure ?_))
  refine wpAny_bind (wpAny_bind (wpAny_holding ?_)); show wpAny _ _ (Builtin.SmallTypes.nextOf (.ref j2) >>= _) _ _ _
  refine wpAny_bind (RZ.nextOf_tuple_item (s := { s with heap := g2 }) ((h2.extBut b1.extBut Z.i2z).extBut b2.extBut Z.i12.symm) ((t2.extBut b1.extBut Z.l2z).extBut b2.extBut Z.l2i1) hv fun g3 i3 b3 => wpAny_pure (wpAny_pure (wpAny_pure ?_)))
  show wpAny _ _ (newTuple [u, v] >>= _) _ _ _
  refine wpAny_bind (wpAny_newTuple ?_)
  have e0 : g3.objs.size = s.heap.objs.size := b3.1.trans (b2.1.trans b1.1)
  have zz : IsZipHeld g3 zc ti tO T true := b3.extBut _ _ Z.i2z.symm (b2.extBut _ _ Z.i1z.symm z1)
  have kk : ∀ c o, c ≠ zc → c ≠ j1 → c ≠ j2 → s.heap.get? c = some o → g3.get? c = some o := fun c o n1 n2 n3 e => b3.extBut _ _ n3 (b2.extBut _ _ n2 (b1.extBut _ _ n1 e))
  have i2' : g3.IsTupleIter j1 m1 (k + 1) := i2.extBut b3.extBut Z.i12
  refine wpAny_pure ⟨_, rfl, wpAny_pure ?_⟩
  show Q (some (.ref g3.objs.size)) _
  have pp : IsPair (g3.push { cls := .type "tuple", data := .seq #[u, v] }) g3.objs.size u v := Heap.get?_push_size _ rfl
  rw [e0] at pp ⊢
  exact q _ (Heap.get?_push_of_some _ zz) (i2'.at fun o e => Heap.get?_push_of_some _ e) (i3.at fun o e => Heap.get?_push_of_some _ e) pp fun c o n1 n2 n3 e => Heap.get?_push_of_some _ (kk c o n1 n2 n3 e)
theorem zh_end {zc ti tO T j1 j2 m1 m2 : Addr} {fl : Bool} {oT : Obj} {k : Nat} {us vs : Array Value} {Q : Option Value → Shared → Prop} (hh : A.handled = none) (Z : ZipApart zc ti tO j1 j2 m1 m2) (hz : IsZipHeld s.heap zc ti tO T fl) (hT : s.heap.get? T = some oT) (hp : IsPair s.heap ti (.ref j1) (.ref j2))
    (h1 : s.heap.IsTupleIter j1 m1 k) (h2 : s.heap.IsTupleIter j2 m2 k) (t1 : s.heap.IsTuple m1 us) (t2 : s.heap.IsTuple m2 vs) (he : us[k]? = none ∨ vs[k]? = none)
    (q : ∀ g', (∀ c o, c ≠ zc → c ≠ j1 → c ≠ j2 → s.heap.get? c = some o → g'.get? c = some o) → Q none { s with heap := g' }) :
    wpAny (model prog w) A (pyNext (.ref zc)) Q E s := by
  have ty : s.TypeIs (.ref zc) "zip" := ⟨_, hz, rfl⟩
  have fin : ∀ (g' : Heap) (e : Addr), (∀ c o, c ≠ zc → c ≠ j1 → c ≠ j2 → s.heap.get? c = some o → g'.get? c = some o) → (∃ o, g'.get? e = some o ∧ o.cls = .type "StopIteration") → wpAny (model prog w) A (isInstance (.ref e) (.type "StopIteration")) (fun b s' => b = true ∧ Q none s') E { s with heap := g' } := fun g' e kk ⟨o, ho, hc⟩ => wpAny_isInstance (T := "StopIteration") (b := true) ⟨o, ho, hc⟩ isSubtype_stop ⟨rfl, q g' kk⟩
  unfold pyNext
  refine wpAny_bind (wpAny_attempt (wpAny_callSpecial?_slot (name := Str.ofString "__next__") ty F.slot_zip_next (wpAny_call_entry F.slot_zip_next ty F.entry_zip_next ?_ (F.args_zip_next_1 _))))
  show wpAny _ _ (field (.ref zc) 2 >>= _) _ _ _
  refine wpAny_bind (wpAny_field hz rfl (x := .bool false) rfl ?_); show wpAny _ _ (field (.ref zc) 3 >>= _) _ _ _
  refine wpAny_bind (wpAny_field hz rfl (x := .ref ti) rfl (wpAny_bind (wpAny_seqItems hp rfl ?_)))
  show wpAny _ _ (Builtin.SmallTypes.ownedTupleIsFree (.ref zc) >>= _) _ _ _
  refine wpAny_bind (wpAny_tupleHeld_zip hz hT fun g1 z1 b1 => ?_)
  simp only [Bool.false_eq_true, if_false]
  refine wpAny_bind ?_
  rw [← Array.forIn_toList]
  simp only [List.forIn_cons, List.forIn_nil]
  refine wpAny_bind (wpAny_bind (wpAny_holding ?_)); show wpAny _ _ (Builtin.SmallTypes.nextOf (.ref j1) >>= _) _ _ _
  cases hu : us[k]? with
  | none =>
    refine wpAny_bind (RZ.nextOf_tuple_end (s := { s with heap := g1 }) hh (h1.extBut b1.extBut Z.i1z) (t1.extBut b1.extBut Z.l1z) hu fun g2 e b2 ⟨o, ho, hc⟩ => ?_)
    refine wpAny_bind (wpAny_isInstance (T := "StopIteration") (b := true) ⟨o, ho, hc⟩ isSubtype_stop (wpAny_pure (q g2 fun c o n1 n2 _ x => b2 _ _ n2 (b1.extBut _ _ n1 x))))
  | some u =>
    have hv : vs[k]? = none := he.elim (fun h => by rw [hu] at h; cases h) id
    refine wpAny_bind (RZ.nextOf_tuple_item (s := { s with heap := g1 }) (h1.extBut b1.extBut Z.i1z) (t1.extBut b1.extBut Z.l1z) hu fun g2 i2 b2 => wpAny_pure (wpAny_pure ?_))
    refine wpAny_bind (wpAny_bind (wpAny_holding ?_)); show wpAny _ _ (Builtin.SmallTypes.nextOf (.ref j2) >>= _) _ _ _
    refine wpAny_bind (RZ.nextOf_tuple_end (s := { s with heap := g2 }) hh ((h2.extBut b1.extBut Z.i2z).extBut b2.extBut Z.i12.symm) ((t2.extBut b1.extBut Z.l2z).extBut b2.extBut Z.l2i1) hv fun g3 e b3 ⟨o, ho, hc⟩ => ?_)
    refine wpAny_bind (wpAny_isInstance (T := "StopIteration") (b := true) ⟨o, ho, hc⟩ isSubtype_stop (wpAny_pure (q g3 fun c o n1 n2 n3 x => b3 _ _ n3 (b2.extBut _ _ n2 (b1.extBut _ _ n1 x)))))
end
def ZSt (zc ti tO j1 j2 m1 m2 dd : Addr) (us vs : Array Value) (i : Nat) (h : Heap) : Prop := IsPair h ti (.ref j1) (.ref j2) ∧ h.IsTupleIter j1 m1 i ∧ h.IsTupleIter j2 m2 i ∧ h.IsTuple m1 us ∧ h.IsTuple m2 vs ∧ ((IsZip h zc ti tO .none ∧ ∃ a b, IsPair h tO a b) ∨ ∃ T f oT, IsZipHeld h zc ti tO T f ∧ h.get? T = some oT ∧ T ≠ zc ∧ T ≠ j1 ∧ T ≠ j2 ∧ T ≠ dd)
def ZOK (zc ti tO j1 j2 m1 m2 : Addr) (us vs : Array Value) (h : Heap) : Prop := IsZip h zc ti tO .none ∧ IsPair h ti (.ref j1) (.ref j2) ∧ (∃ a b, IsPair h tO a b) ∧ h.IsTupleIter j1 m1 0 ∧ h.IsTupleIter j2 m2 0 ∧ h.IsTuple m1 us ∧ h.IsTuple m2 vs
theorem pair_zipT {prog : Program} {w : World} {zc ti tO j1 j2 m1 m2 : Addr} (Z : ZipApart zc ti tO j1 j2 m1 m2) (us vs : Array Value) : PairArg prog w "zip" zc [zc, ti, tO, j1, j2, m1, m2] [zc, tO, j1, j2] (min us.size vs.size) (fun i k v => us[i]? = some k ∧ vs[i]? = some v) (ZOK zc ti tO j1 j2 m1 m2 us vs) := by
  refine ⟨fun s ok => ⟨_, ok.1, rfl⟩, by decide, fun h h' ok kk => ?_, fun h ok b hb => ?_, fun b hb => ?_, fun A s Q E hA ok q => getAttrOr_miss_zip ok.1 rfl rfl rfl zip_no_keys (by decide +kernel) hA q, fun A s dd Q E hA ok hd hdf q => ?_⟩
  · obtain ⟨o1, o2, ⟨a, b, o3⟩, o4, o5, o6, o7⟩ := ok
    exact ⟨kk _ _ o1, kk _ _ o2, ⟨a, b, kk _ _ o3⟩, o4.at fun o e => kk _ o e, o5.at fun o e => kk _ o e, o6.at fun o e => kk _ o e, o7.at fun o e => kk _ o e⟩
  · obtain ⟨o1, o2, ⟨a, c, o3⟩, ⟨p4, o4, _⟩, ⟨p5, o5, _⟩, ⟨p6, o6, _⟩, ⟨p7, o7, _⟩⟩ := ok
    simp only [List.mem_cons, List.not_mem_nil, or_false] at hb
    rcases hb with rfl | rfl | rfl | rfl | rfl | rfl | rfl
    · exact ⟨_, o1⟩
    · exact ⟨_, o2⟩
    · exact ⟨_, o3⟩
    · exact ⟨_, o4⟩
    · exact ⟨_, o5⟩
    · exact ⟨_, o6⟩
    · exact ⟨_, o7⟩
  · simp only [List.mem_cons, List.not_mem_nil, or_false] at hb ⊢
    rcases hb with h | h | h | h
    · exact .inl h
    · exact .inr (.inr (.inl h))
    · exact .inr (.inr (.inr (.inl h)))
    · exact .inr (.inr (.inr (.inr (.inl h))))
  · obtain ⟨o1, o2, ⟨a, b, o3⟩, o4, o5, o6, o7⟩ := ok
    simp only [List.mem_cons, List.not_mem_nil, or_false, not_or] at hdf
    obtain ⟨d1, d2, d3, d4, d5, d6, d7⟩ := hdf
    refine wpAny_pyIter_zip o1 (q zc [zc, tO, j1, j2] (ZSt zc ti tO j1 j2 m1 m2 dd us vs) s.heap s.toks ⟨fun hm => ?_, fun i h₁ h₂ st kk => ?_, fun i s₁ Q₁ E₁ hi st hds hq => ?_, fun s₁ Q₁ E₁ st hq => ?_⟩ ⟨o2, o4, o5, o6, o7, .inl ⟨o1, a, b, o3⟩⟩ (fun _ _ e => e) fun b hb => .inl hb)
    · simp only [List.mem_cons, List.not_mem_nil, or_false] at hm
      rcases hm with e | e | e | e
      · exact d1 e
      · exact d3 e
      · exact d4 e
      · exact d5 e
    · obtain ⟨s2, s4, s5, s6, s7, sz⟩ := st
      refine ⟨kk _ _ (Ne.symm d2) s2, s4.at fun o e => kk _ o (Ne.symm d4) e, s5.at fun o e => kk _ o (Ne.symm d5) e, s6.at fun o e => kk _ o (Ne.symm d6) e, s7.at fun o e => kk _ o (Ne.symm d7) e, ?_⟩
      rcases sz with ⟨hz, a, b, ht⟩ | ⟨T, f, oT, hz, hT, r1, r2, r3, r4⟩
      · exact .inl ⟨kk _ _ (Ne.symm d1) hz, a, b, kk _ _ (Ne.symm d3) ht⟩
      · exact .inr ⟨T, f, oT, kk _ _ (Ne.symm d1) hz, kk _ _ r4 hT, r1, r2, r3, r4⟩
    · obtain ⟨s2, s4, s5, s6, s7, sz⟩ := st
      have eu := Array.getElem?_eq_getElem (Nat.lt_of_lt_of_le hi (Nat.min_le_left us.size vs.size))
      have ev := Array.getElem?_eq_getElem (Nat.lt_of_lt_of_le hi (Nat.min_le_right us.size vs.size))
      have lt : ∀ {c o}, s₁.heap.get? c = some o → s₁.heap.objs.size ≠ c := fun e => Nat.ne_of_gt (Heap.lt_size e)
      have n1 : s₁.heap.objs.size ≠ j1 := let ⟨_, e, _⟩ := s4; lt e
      have n2 : s₁.heap.objs.size ≠ j2 := let ⟨_, e, _⟩ := s5; lt e
      rcases sz with ⟨hz, a, b, ht⟩ | ⟨T, f, oT, hz, hT, r1, r2, r3, r4⟩
      · refine RZ.pyNext_zipT_item Z hz s2 ht s4 s5 s6 s7 eu ev fun h' a1 a2 a3 a4 a5 a6 kk => ?_
        exact hq s₁.heap.objs.size _ _ h' s₁.toks ⟨eu, ev⟩ (.inl ⟨_, a5, rfl, _, rfl⟩) ⟨kk _ _ Z.TIz Z.TITO Z.TIi1 Z.TIi2 s2, a3, a4, s6.at fun o e => kk _ o Z.l1z Z.l1TO Z.l1i1 Z.l1i2 e, s7.at fun o e => kk _ o Z.l2z Z.l2TO Z.l2i1 Z.l2i2 e, .inr ⟨s₁.heap.objs.size, false, _, a1, a5, lt hz, n1, n2, Nat.ne_of_gt hds⟩⟩ fun c o hc e => kk c o (fun x => hc (by simp [x])) (fun x => hc (by simp [x])) (fun x => hc (by simp [x])) (fun x => hc (by simp [x])) e
      · refine zh_item Z hz hT s2 s4 s5 s6 s7 eu ev fun h' a1 a3 a4 a5 kk => ?_
        exact hq s₁.heap.objs.size _ _ h' s₁.toks ⟨eu, ev⟩ (.inl ⟨_, a5, rfl, _, rfl⟩) ⟨kk _ _ Z.TIz Z.TIi1 Z.TIi2 s2, a3, a4, s6.at fun o e => kk _ o Z.l1z Z.l1i1 Z.l1i2 e, s7.at fun o e => kk _ o Z.l2z Z.l2i1 Z.l2i2 e, .inr ⟨T, true, oT, a1, kk _ _ r1 r2 r3 hT, r1, r2, r3, r4⟩⟩ fun c o hc e => kk c o (fun x => hc (by simp [x])) (fun x => hc (by simp [x])) (fun x => hc (by simp [x])) e
    · obtain ⟨s2, s4, s5, s6, s7, sz⟩ := st
      have he : us[min us.size vs.size]? = none ∨ vs[min us.size vs.size]? = none := by
        rcases Nat.le_total us.size vs.size with h | h
        · exact .inl (Array.getElem?_eq_none (Nat.le_of_eq (Nat.min_eq_left h).symm))
        · exact .inr (Array.getElem?_eq_none (Nat.le_of_eq (Nat.min_eq_right h).symm))
      rcases sz with ⟨hz, a, b, ht⟩ | ⟨T, f, oT, hz, hT, r1, r2, r3, r4⟩
      · exact RZ.pyNext_zipT_end hA Z hz s2 ht s4 s5 s6 s7 he fun h' kk => hq h' s₁.toks fun c o hc e => kk c o (fun x => hc (by simp [x])) (fun x => hc (by simp [x])) (fun x => hc (by simp [x])) (fun x => hc (by simp [x])) e
      · exact zh_end hA Z hz hT s2 s4 s5 s6 s7 he fun h' kk => hq h' s₁.toks fun c o hc e => kk c o (fun x => hc (by simp [x])) (fun x => hc (by simp [x])) (fun x => hc (by simp [x])) e
theorem kv_zip : ∀ {ks : List Key} {ys : List V} {us : List Value}, Vals ys us → KV (ks.zip ys) (ks.zip us)
  | [], _, _, _ => .nil
  | _ :: _, [], _, r => by
    cases r
    exact .nil
  | k :: ks, y :: ys, us, r => by
    cases r with
    | cons h t => exact .cons ⟨rfl, h⟩ (kv_zip t)
theorem tup_at9 {h h' : Heap} {a : Addr} {xs : Array Value} (p : h.IsTuple a xs) (k : ∀ c o, h.get? c = some o → h'.get? c = some o) : h'.IsTuple a xs := by
  obtain ⟨o, e, c⟩ := p
  exact ⟨o, k _ _ e, c⟩
theorem zm_lt9 {N a : Nat} (h : a < N) : a ≠ N ∧ a ≠ N + 1 ∧ a ≠ N + 3 ∧ a ≠ N + 4 := by omega
theorem nb9 {N c : Nat} (h : c < N) : ¬ (c = N + 4 ∨ c = N + 3 ∨ c = N ∨ c = N + 1) := by omega
theorem zz_apart {N a b : Nat} (ha : a < N) (hb : b < N) : ZipApart (N + 4) (N + 2) (N + 3) N (N + 1) a b :=
  have l : ∀ {i j : Nat}, i < j → N + i ≠ N + j := fun h => by omega
  have g : ∀ {i j : Nat}, j < i → N + i ≠ N + j := fun h => by omega
  ⟨l (i := 2) (j := 4) (by decide), l (i := 3) (j := 4) (by decide), l (i := 0) (j := 4) (by decide), l (i := 1) (j := 4) (by decide), l (i := 2) (j := 3) (by decide), g (i := 2) (j := 0) (by decide), g (i := 2) (j := 1) (by decide), g (i := 3) (j := 0) (by decide), g (i := 3) (j := 1) (by decide), l (i := 0) (j := 1) (by decide), (zm_lt9 ha).2.2.2, (zm_lt9 ha).2.2.1, (zm_lt9 ha).1, (zm_lt9 ha).2.1, (zm_lt9 hb).2.2.2, (zm_lt9 hb).2.2.1, (zm_lt9 hb).1, (zm_lt9 hb).2.1⟩
def rDZ (K : PySem.W.Frag) : List V → Hp → VK → Prop := fun xs H Q => ∃ (a b : Addr) (ks : List Key) (ys : List V), xs = [.ref a, .ref b] ∧ SqT K H a (ks.map kV) ∧ SqT K H b ys ∧ ∀ p, H p = none → Q (.ref p) (upd H p (.dK (mergeK [] (ks.zip ys))))
def tDZ (K : PySem.W.Frag) (ta : TA) : TE := fun σ H Q => ta σ H fun xs H1 => rDZ K xs H1 Q
theorem pe_dictZip {X : Cx} {e e2 : Expr} {ta : TA} {p p2 pos pos2 : Pos} (hg : Gl X "dict") (hm : X.mg "dict" = none) (hg2 : Gl X "zip") (hm2 : X.mg "zip" = none) (ha : PA X [e, e2] ta) (hc : X.calm = true := by rfl)
    (hs : starEach [e, e2] X.env = (false, eval e X.env) :: starEach [e2] X.env := by rfl) (hpl : (backTo pos2 (starEach [e2] X.env)).any (·.1) = false := by rfl) : PE X (.Call (.Name "dict" p) [.Call (.Name "zip" p2) [e, e2] [] pos2] [] pos) (tDZ X.K ta) := ⟨fun pn s σ H Q I h => by
  refine Call_ (ld_blt I hg hm boot_dict (callWith_type1 (args_cons (Call_ (ld_blt I hg2 hm2 boot_zip (callWith_type1 (thn (ha.run pos2 pn s σ H _ I h) fun us s1 h1 => ?_) hs hpl) (by decide) (by decide)) rfl) rfl) rfl rfl) (by decide) (by decide)) rfl
  obtain ⟨vs, H1, I1, r1, a, b, ks, ys, rfl, hx, hy, q⟩ := h1
  obtain ⟨its, rv, p1, z1⟩ := I1.tuple hx
  obtain ⟨its2, rv2, p2', z2⟩ := I1.tuple hy
  obtain ⟨u1, u2, rfl, e1, e2'⟩ := L2.vals2 r1
  cases e1
  cases e2'
  have la : a < s1.heap.objs.size := by
    obtain ⟨o, g, _⟩ := p1
    exact Heap.lt_size g
  have lb : b < s1.heap.objs.size := by
    obtain ⟨o, g, _⟩ := p2'
    exact Heap.lt_size g
  refine RZ.call_zipT p1 p2' fun h' hz hTI hTO g1 g2 hsz hk => args_nil ?_
  generalize hN : s1.heap.objs.size = N at la lb hz hTI hTO g1 g2 hsz
  have Z : ZipApart (N + 4) (N + 2) (N + 3) N (N + 1) a b := zz_apart la lb
  have l1 := Vals.length rv
  have l2 := Vals.length rv2
  rw [List.length_map] at l1 z1
  have hd0 := I1.ok.hd hc
  refine PySem.call_dict_pairs (knd := mixKind X.prog X.w) (kvs := ks.zip its2) (pair_zipT Z its.toArray its2.toArray) hd0 ⟨hz, hTI, ⟨_, _, hTO⟩, g1, g2, tup_at9 p1 hk, tup_at9 p2' hk⟩ ⟨?_, fun i key v hkv => ?_⟩ ?_ fun h2 tk hd2 kk => ?_
  · rw [List.length_zip, List.size_toArray, List.size_toArray, l1]
  · obtain ⟨h3, h4⟩ := hkv
    have h3 : its[i]? = some key := by simpa using h3
    have h4 : its2[i]? = some v := by simpa using h4
    have hi : i < ks.length := by
      have := (List.getElem?_eq_some_iff.mp h3).1
      omega
    have ek : ks[i]? = some ks[i] := List.getElem?_eq_getElem hi
    obtain ⟨v1, hv1, ru⟩ := Vals.get rv (x := kV ks[i]) (by rw [List.getElem?_map, ek]; rfl)
    rw [h3] at hv1
    cases hv1
    exact ⟨ks[i], List.getElem?_zip_eq_some (z := (ks[i], v)) |>.mpr ⟨ek, h4⟩, kV_is (P := X.prog) (w := X.w) ru⟩
  · rw [List.size_toArray, List.size_toArray]
    exact Nat.le_trans (Nat.min_le_right ..) (by rw [← l2]; exact z2)
  · have hbig := I1.big
    rw [hN] at hbig
    have hsz5 : h'.objs.size = N + 5 := hsz
    have hm0 : (h'.objs.size == sysModules) = false := beq_eq_false_iff_ne.mpr (by rw [hsz5]; exact Nat.ne_of_gt (Nat.lt_of_lt_of_le hbig (Nat.le_add_right _ _)))
    have hl : (mergeK [] (ks.zip ys)).length ≤ sizeLine := by
      refine Nat.le_trans (length_mergeK _ []) ?_
      rw [List.length_nil, Nat.zero_add, List.length_zip]
      exact Nat.le_trans (Nat.min_le_left ..) z1
    have nb : ∀ {c : Nat}, c < N → c ∉ [N + 4, N + 3, N, N + 1] := fun {c} hc hm => by
      simp only [List.mem_cons, List.not_mem_nil, or_false] at hm
      exact nb9 hc hm
    have kp : ∀ c o, s1.heap.get? c = some o → h2.get? c = some o := fun c o e => kk c o (nb (by rw [← hN]; exact Heap.lt_size e)) (hk c o e)
    exact ⟨.ref h'.objs.size, upd H1 h'.objs.size (.dK (mergeK [] (ks.zip ys))), I1.laid (t' := tk) kp (by omega) (show ObjOk X.prog X.w _ _ _ (.dK (mergeK [] (ks.zip ys))) from ⟨hl, hm0, merged [] (ks.zip its2), KV.merge (kv_zip rv2) .nil, hd2⟩), rfl, q _ (I1.hok.fresh (by omega))⟩⟩
/-! ### as data -/
def keysD : List D → Option (List Key)
  | [] => some []
  | d :: ds => (keyOf d).bind fun k => (keysD ds).map (k :: ·)
def dzM (es : List (D × D)) (kvs : List (Key × D)) : List (D × D) := kvs.foldl (fun acc kv => putD acc kv.1 kv.2) es
def dzD : List D → Option D
  | [.tuple a, .tuple b] => (keysD a).map fun ks => .dict (dzM [] (ks.zip b))
  | _ => none
theorem RpAll.keys {M : Addr → Prop} {H : Hp} : ∀ {vs : List V} {ds : List D} {ks : List Key}, RpAll M H vs ds → keysD ds = some ks → vs = ks.map kV
  | _, _, _, .nil, e => by
    cases e
    rfl
  | _, _, ks, .cons r t, e => by
    obtain ⟨k, e1, e⟩ := some_bind (show (keyOf _).bind _ = some ks from e)
    obtain ⟨ks', e2, rfl⟩ := some_map e
    rw [r.key e1, t.keys e2]
    rfl
theorem RpKV.zip {M : Addr → Prop} {H : Hp} : ∀ {ks : List Key} {vs : List V} {ds : List D} {kvs : List (Key × V)} {es : List (D × D)}, RpAll M H vs ds → RpKV M H kvs es → RpKV M H (mergeK kvs (ks.zip vs)) (dzM es (ks.zip ds))
  | [], _, _, _, _, _, h => h
  | _ :: _, _, _, _, _, .nil, h => h
  | k :: ks, _, _, _, _, .cons r t, h => RpKV.zip (ks := ks) t (h.put (k := k) r)
theorem dE_dictZip {X : Cx} {e e2 : Expr} {f : Rho → Option (List D)} {μ : Bool} {p p2 pos pos2 : Pos} (hg : Gl X "dict") (hm : X.mg "dict" = none) (hg2 : Gl X "zip") (hm2 : X.mg "zip" = none) (ha : PA X [e, e2] (tA μ f)) (hc : X.calm = true := by rfl)
    (hs : starEach [e, e2] X.env = (false, eval e X.env) :: starEach [e2] X.env := by rfl) (hpl : (backTo pos2 (starEach [e2] X.env)).any (·.1) = false := by rfl) : PE X (.Call (.Name "dict" p) [.Call (.Name "zip" p2) [e, e2] [] pos2] [] pos) (tD μ (eCall dzD f)) := (pe_dictZip hg hm hg2 hm2 ha hc hs hpl).wk fun σ H Q q => by
  obtain ⟨M0, H0, ρ, d, R, e, q⟩ := q
  obtain ⟨ds, ed, e⟩ := some_bind e
  refine ⟨M0, H0, ρ, ds, R, ed, fun vs H1 s1 r1 => ?_⟩
  match ds, e, r1 with
  | [.tuple a, .tuple b], e, .cons (@Rp.tup _ _ a1 xs1 _ t n l r) (.cons (@Rp.tup _ _ a2 xs2 _ t2 n2 l2 r2) .nil) =>
    obtain ⟨ks, ek, rfl⟩ := some_map (show (keysD a).map _ = some d from e)
    have ex := r.keys ek
    subst ex
    refine ⟨_, _, ks, xs2, rfl, t.sq, t2.sq, fun p hp => q _ _ (s1.trans (smN hp)) (.dic upd_same (((R.mono s1).domu μ).not hp) ?_)⟩
    exact RpKV.zip (r2.mono (.of (smN hp))) .nil
end Dl
namespace Dl
open PySem PySem.Spec PyProof.Rows L2 Rt
/-! ### d.get(k, v) -/
theorem RpKV.val0 {M : Addr → Prop} {H : Hp} {k : Key} : ∀ {kvs : List (Key × V)} {es : List (D × D)}, RpKV M H kvs es → lookD k es = none → valV kvs k = none
  | _, _, .nil, _ => rfl
  | _, _, .cons (k := k0) (v := v0) h t, e => by
    unfold lookD at e
    by_cases z : k0 = k
    · rw [if_pos (show keyOf (kD k0) = some k by rw [keyOf_kD, z])] at e
      cases e
    · rw [if_neg (show ¬ keyOf (kD k0) = some k by rw [keyOf_kD]; intro q; injection q with q; exact z q)] at e
      have e1 := t.val0 e
      unfold valV at e1 ⊢
      rw [List.find?_cons_of_neg (by simp [z])]
      exact e1
theorem iteS' {c : Prop} [Decidable c] {x : Option D} {d : D} (h : (if c then x else none) = some d) : c ∧ x = some d := by
  by_cases hc : c
  · rw [if_pos hc] at h
    exact ⟨hc, h⟩
  · rw [if_neg hc] at h
    cases h
def dg2D : D → D → D → Option D
  | .dict es, k, v => if (es.any fun e => (keyOf e.1).isSome) = true then (keyOf k).map fun k => (lookD k es).getD v else none
  | _, _, _ => none
theorem any_dt : ∀ kvs : List (List Key × Int), ((dtD kvs).any fun e => (keyOf e.1).isSome) = false
  | [] => rfl
  | _ :: kvs => by
    show ((keyOf (.tuple _)).isSome || (dtD kvs).any fun e => (keyOf e.1).isSome) = false
    rw [any_dt kvs]
    rfl
def eDg (f g h : EF) : EF := fun ρ => (f ρ).bind fun a => (g ρ).bind fun b => (h ρ).bind fun c => dg2D a b c
section
variable {X : Cx}
theorem dE_get2 {o e f : Expr} {apos cpos : Pos} {f1 f2 f3 : EF} {μ : Bool} (hu : X.A.units + 1 < cLine) (ho : PE X o (tD μ f1)) (he : PE X e (tD μ f2)) (hf : PE X f (tD μ f3)) (m : M2 X o "get" apos e f cpos := by exact ⟨rfl, rfl, rfl, rfl⟩) : PE X (.Call (.Attribute o "get" apos) [e, f] [] cpos) (tD μ (eDg f1 f2 f3)) := (pe_dget2 hu ho he hf m).wk fun σ H Q q => by
  obtain ⟨M0, H0, ρ, d, R, e, q⟩ := q
  obtain ⟨a, ea, e⟩ := some_bind e
  obtain ⟨b, eb, e⟩ := some_bind e
  obtain ⟨c, ec, e⟩ := some_bind e
  refine ⟨M0, H0, ρ, a, R, ea, fun x H1 s1 r1 => ?_⟩
  cases r1 with
  | @dic p kvs es t n h =>
    refine ⟨_, rfl, .inl ⟨kvs, .inl t⟩, M0, H0, ρ, b, R.mono s1, eb, fun y H2 s2 r2 => ⟨M0, H0, ρ, c, (R.mono s1).mono s2, ec, fun z H3 s3 r3 => ?_⟩⟩
    obtain ⟨_, e⟩ := iteS' (show (if (es.any fun e => (keyOf e.1).isSome) = true then (keyOf b).map fun k => (lookD k es).getD c else none) = some d from e)
    obtain ⟨k, ek, rfl⟩ := some_map e
    have t3 := s3 _ _ (s2 _ _ t)
    refine ⟨valV kvs k, .inl ⟨kvs, k, .inl t3, r2.key ek, rfl⟩, ?_⟩
    cases hl : lookD k es with
    | none =>
      rw [h.val0 hl]
      rw [hl] at q
      exact q z H3 ((s1.trans s2).trans s3) r3
    | some w =>
      obtain ⟨v, ev, rv⟩ := (h.mono (.of (s2.trans s3))).val hl
      rw [ev]
      rw [hl] at q
      exact q v H3 ((s1.trans s2).trans s3) rv
  | non => cases e
  | bl b => cases e
  | int i => cases e
  | str x hx => cases e
  | tup t n l r => cases e
  | lst t n l r => cases e
  | @dct p kvs es t n h =>
    subst h
    have e : (if ((dtD kvs).any fun e => (keyOf e.1).isSome) = true then (keyOf b).map fun k => (lookD k (dtD kvs)).getD c else none) = some d := e
    rw [any_dt, if_neg Bool.false_ne_true] at e
    cases e
end
end Dl
namespace Dl
open PySem PySem.Spec PyProof.Rows L2 Rt
/-! ### xs[i], xs[j] = x, y: a list of one's own, put otherwise at two places -/
def swPut2 (i : Nat) (f : WP (List D)) (g1 g2 : EF) : WP Out := ⟨fun ρ b Q => f.w ρ b fun ds b1 => ∃ x y es k1 j1 k2 j2, ds = [x, y] ∧ ρ[i]? = some (some (.own es)) ∧ g1 (shutR true ρ) = some (.int k1) ∧ ixN es.length k1 = some j1 ∧ g2 (shutR true (ρ.set i (some (.own (es.set j1 x))))) = some (.int k2) ∧ ixN es.length k2 = some j2 ∧ Q (.nx (ρ.set i (some (.own ((es.set j1 x).set j2 y))))) b1, fun h z => f.m (fun ds b1 ⟨x, y, es, k1, j1, k2, j2, e, a1, a2, a3, a4, a5, q⟩ => ⟨x, y, es, k1, j1, k2, j2, e, a1, a2, a3, a4, a5, h _ _ q⟩) z⟩
section
variable {X : Cx} {K : PySem.W.Frag}
theorem nS_put2 {st : Stmt} {i : Nat} {f : WP (List D)} {g1 g2 : EF} (h : PS X st (tAsg (tTupF (tnA f)) (gTup X.K 2 (gCons (gSub (tVar i) (tD true g1) rSetLL) (gCons (gSub (tVar i) (tD true g2) rSetLL) gNil))))) : PS X st (tSn (swPut2 i f g1 g2)) := h.wk fun Dn σ H q => by
  obtain ⟨g, M0, H0, ρ, b, R, q⟩ := q
  refine ⟨g, M0, H0, ρ, b, R, f.m (fun ds b1 ⟨x, y, es, k1, j1, k2, j2, e, a1, a2, a3, a4, a5, q⟩ vs H1 kk1 i1 r1 => ?_) q⟩
  subst e
  match vs, r1 with
  | [v, w], .cons ra (.cons rb .nil) =>
    refine ⟨sz (by show 2 ≤ 100000; decide), fun p3 H3 np3 s3 t3 => ⟨p3, _, rfl, t3.sq, rfl, ?_⟩⟩
    have R3 := (R.up kk1 i1).mono s3
    obtain ⟨p, us, a, c, h0, l, r⟩ := R3.own i es a1
    refine ⟨v, [w], rfl, .ref p, a, _, H3, _, .int k1, R3.rs true, a2, fun u H4 s4 r4 => ?_⟩
    cases r4
    have c4 := s4 _ _ c
    refine ⟨p, us, k1, j1, rfl, rfl, c4, by rw [r.len]; exact a3, fun H5 e5 => ?_⟩
    subst e5
    have R4 := R3.mono s4
    obtain ⟨R5, S5⟩ := R4.ownSet a1 a c4 (vs' := us.set j1 v) (ds' := es.set j1 x) (by rw [List.length_set]; exact l) (RpAll.set (ra.mono (.of (s3.trans s4))) j1 (r.mono (.of s4)))
    have hi : i < ρ.length := (List.getElem?_eq_some_iff.mp a1).1
    have b1' : (ρ.set i (some (.own (es.set j1 x))))[i]? = some (some (.own (es.set j1 x))) := set_same hi
    have mp : Mu true M0 σ ρ p := .inr ⟨rfl, i, es, a1, a⟩
    have mu : ∀ a', Mu true M0 σ (ρ.set i (some (.own (es.set j1 x)))) a' → Mu true M0 σ ρ a' := fun a' m => by
      rcases m with m | ⟨_, j, es', e1, e2⟩
      · exact .inl m
      · rcases set_get e1 with ⟨rfl, _⟩ | ⟨n, e1⟩
        · rw [a] at e2
          cases e2
          exact mp
        · exact .inr ⟨rfl, j, es', e1, e2⟩
    have kp4 : KpM (Mu true M0 σ ρ) H4 (upd H4 p (.lst (us.set j1 v))) := fun o q n e => by
      rw [upd_ne (fun z => n (by rw [z]; exact mp))]
      exact e
    refine ⟨w, [], rfl, .ref p, a, _, _, _, .int k2, R5.rs true, a4, fun u H6 s6 r6 => ?_⟩
    cases r6
    have c6 : H6 p = some (.lst (us.set j1 v)) := s6 _ _ upd_same
    refine ⟨p, us.set j1 v, k2, j2, rfl, rfl, c6, by rw [List.length_set, r.len]; exact a5, fun H7 e7 => ?_⟩
    subst e7
    have R6 := R5.mono s6
    have rs : RpAll (Mu true M0 σ (ρ.set i (some (.own (es.set j1 x))))) H6 ((us.set j1 v).set j2 w) ((es.set j1 x).set j2 y) := by
      refine RpAll.reM (fun a' m => .inl (mu a' m)) (RpAll.set ?_ j2 ?_)
      · exact ((rb.mono (.of (s3.trans s4))).mono kp4).mono (.of s6)
      · exact ((RpAll.set (ra.mono (.of (s3.trans s4))) j1 (r.mono (.of s4))).mono kp4).mono (.of s6)
    obtain ⟨R7, S7⟩ := R6.ownSet b1' a c6 (vs' := (us.set j1 v).set j2 w) (ds' := (es.set j1 x).set j2 y) (by rw [List.length_set, List.length_set]; exact l) rs
    rw [List.set_set] at R7 S7
    exact ⟨rfl, q _ _ R7 (((((R.stp kk1).trans (Stp.of s3)).trans (Stp.of s4)).trans S5).trans ((Stp.of s6).trans S7))⟩
end
end Dl
namespace Rt
open PySem PySem.Spec PyProof.Rows L2
/-! ### len(set(t)), t a tuple of texts that are told apart -/
/-- the set that has nothing yet -/
def bare (led : Bool) : Obj := { cls := .type "set", dict := none, data := .set #[] 0 (.fresh 0 0 led) }
/-- a set of just these texts -/
def HasT (P : Program) (w : World) (h : Heap) (a : Addr) (xs : List Str) : Prop := h.SetOf (PySem.strKind P w) a (fun x => xs.any (· == x)) xs.length
theorem HasT.keep {P : Program} {w : World} {h h' : Heap} {a : Addr} {xs : List Str} (H : HasT P w h a xs) (k : ∀ o, h.get? a = some o → h'.get? a = some o) : HasT P w h' a xs := by
  obtain ⟨o, es, e, t, z, r⟩ := H
  exact ⟨o, es, e, t, k o z, r⟩
theorem HasT.bare {P : Program} {w : World} {h : Heap} {a : Addr} {led : Bool} (z : h.get? a = some (bare led)) : HasT P w h a [] :=
  SetOf_congr ((setObjOf_fresh (knd := PySem.strKind P w) led).setOf z (by decide)) (fun _ => rfl) rfl
theorem any_snoc {xs : List Str} {x y : Str} : ((xs ++ [x]).any (· == y)) = (xs.any (· == y) || decide (y = x)) := by
  rw [List.any_append]
  congr 1
  by_cases h : y = x
  · subst h; simp
  · have : (x == y) = false := by simpa [beq_iff_eq] using fun e : x = y => h e.symm
    simp [this, h]
theorem any_not {xs : List Str} {x : Str} (h : x ∉ xs) : xs.any (· == x) = false := by
  rw [List.any_eq_false]
  intro y hy e
  have e : y = x := by simpa using e
  exact h (e ▸ hy)
section
variable {P : Program} {w : World} {A : Around} {R : Result → Shared → Prop} {I : Addr} {fp wr : List Addr} {G : Array GenState → Array GenState → Prop} {n : Nat} {Pv : Nat → Value → Prop} {St : Nat → Shared → Prop}
theorem txts_in (W : WalksS P w A.in1 I fp wr G n Pv St) {a : Addr} (ha : a ∉ fp) (xs : List Str) (hx : xs.length = n) (nd : xs.Nodup) (small : n + 1 < scanBound) (hv : ∀ i v, Pv i v → ∃ x t, xs[i]? = some x ∧ v = .str x t) :
    ∀ (m i : Nat) (s : Shared), i + m = n → St i s → HasT P w s.heap a (xs.take i) → (∀ s', Moved (a :: wr) G s s' → HasT P w s'.heap a xs → R (.ok (.ret .none)) s') →
      codeAny (model P w) A (.builtin "set.update.loop" ⟨[.ref a, .ref I], []⟩) R s
  | 0, i, s, e, st, H, fin => by
    have aw : a ∉ wr := fun m => ha (W.sub _ m)
    obtain rfl : i = n := e
    rw [List.take_of_length_le (by omega)] at H
    refine codeAny_builtin F.entry_set_update_loop (by
      rw [Around.under_plainId F.plain_set_update_loop _]
      exact wpAny_bind (W.done s _ _ st fun s1 mv => wpAny_pure (fin s1 (mv.mono fun b hb => List.mem_cons_of_mem _ hb) (H.keep fun o z => mv.heap a o aw z))))
  | m + 1, i, s, e, st, H, fin => by
    have aw : a ∉ wr := fun m => ha (W.sub _ m)
    have lt : i < n := by omega
    refine codeAny_builtin F.entry_set_update_loop (by
      rw [Around.under_plainId F.plain_set_update_loop _]
      refine wpAny_bind (W.item i s _ _ lt st fun v s1 pv st1 mv => ?_)
      obtain ⟨x, t, ex, rfl⟩ := hv i v pv
      have H1 := H.keep (h' := s1.heap) fun o z => mv.heap a o aw z
      have lti : (xs.take i).length = i := by rw [List.length_take]; omega
      have nx : x ∉ xs.take i := fun hm => by
        have nd2 := nd
        rw [← List.take_append_drop i xs] at nd2
        obtain ⟨hl, he⟩ := List.getElem?_eq_some_iff.mp ex
        refine (List.nodup_append.mp nd2).2.2 x hm x ?_ rfl
        rw [List.drop_eq_getElem_cons hl, he]
        exact List.mem_cons_self ..
      show wpAny _ A.in1 (holding [Value.str x t] (setAdd a (.str x t)) >>= _) _ _ s1
      refine wpAny_bind (wpAny_holding (by
        unfold setAdd
        refine wpAny_holding (wpAny_bind ((PySem.strKind P w).pyHash (k := x) (strKind_is _ _ _ _) (wpAny_setAddHashed_of (knd := PySem.strKind P w) (s := { s1 with toks := s1.toks + 1 }) (strKind_is _ _ _ _) rfl H1 (by rw [lti]; omega) fun h2 sb S2 => ?_)))
        have H2 : HasT P w h2 a (xs.take (i + 1)) := by
          have et : xs.take (i + 1) = xs.take i ++ [x] := by rw [List.take_add_one, ex]; rfl
          rw [et]
          refine SetOf_congr S2 (fun y => any_snoc.symm) ?_
          show (if (xs.take i).any (· == x) = true then _ else _) = _
          rw [any_not nx, List.length_append]
          rfl
        refine wpAny_pure ⟨plainId_quiet F.plain_set_update_loop _, txts_in W ha xs hx nd small hv m (i + 1) _ (by omega) (W.frame _ s1 _ _ st1 (Nat.le_succ _) fun b hb o z => by
          rw [sb.2 b fun q : b = a => ha (q ▸ hb)]
          exact z) H2 fun s3 mv3 H3 => fin s3 (Moved.trans W.gtrans ((mv.mono fun b hb => List.mem_cons_of_mem _ hb).then_heap (Nat.le_succ _) fun b o hb z => by
            rw [sb.2 b fun q : b = a => hb (q ▸ List.mem_cons_self)]
            exact z) mv3) H3⟩)))
end
section
variable {P : Program} {w : World} {A : Around} {E : Value → Shared → Prop} {s : Shared}
theorem set_of_txts {l : Addr} {items : Array Value} {xs : List Str} {Q : Value → Shared → Prop} (hh : A.handled = none) (hl : s.heap.IsTuple l items) (hi : StrsAre items.toList xs) (nd : xs.Nodup) (small : xs.length + 1 < scanBound)
    (q : ∀ (h' : Heap) (tk : Nat), HasT P w h' s.heap.objs.size xs → (∀ b o, s.heap.get? b = some o → h'.get? b = some o) → Q (.ref s.heap.objs.size) { s with heap := h', toks := tk }) :
    wpAny (model P w) A (call (.type "set") [.ref l]) Q E s := by
  have made := F.called_set.made; have sub := F.called_set.sub; have nt := F.called_set.notType; have cc := F.called_set.canCreate; have tc := F.typeCall_set_1 (.ref l)
  obtain ⟨_, _, mro⟩ := F.called_set.mro
  refine wpAny_call (codeAny_of_tree (show wpAny _ _ (callAny (.type "set") _) _ _ _ from wpAny_pure ⟨Code.quiet_builtin _ (by decide +kernel), codeAny_builtin F.entry_type_call (by
    rw [Around.under_plain (weight_type_call_type "set" [.ref l] []) rfl]
    repeat (any_goals (first | assumption | wp_step))
    refine codeAny_mono (code_set_new_1 (.ref l) (E := E) (Q₁ := fun v s1 => ∃ led : Bool, v = .ref s.heap.objs.size ∧ s1 = { s with heap := s.heap.push (bare led) }) fun led => ⟨led, rfl, rfl⟩) fun r s1 hr => ?_
    match r, hr with
    | .error _, hr => exact hr
    | .ok (.ret v), hr =>
      obtain ⟨led, rfl, rfl⟩ := hr
      have at0 : (s.heap.push (bare led)).get? s.heap.objs.size = some (bare led) := Heap.get?_push_size _ rfl
      have ty : Shared.TypeIs { s with heap := s.heap.push (bare led) } (.ref s.heap.objs.size) "set" := ⟨_, at0, rfl⟩
      have il := F.called_set.init.lookup; have ib := F.called_set.init.bind (.ref s.heap.objs.size)
      repeat (any_goals (first | assumption | wp_step))
      refine codeAny_mono (codeAny_call_builtin (R := wants (fun r s2 => r = .none ∧ ∃ h' tk, s2 = { s with heap := h', toks := tk } ∧ HasT P w h' s.heap.objs.size xs ∧ ∀ b o, s.heap.get? b = some o → h'.get? b = some o) E) F.called_set.init.plain F.entry_set_init (check_set_init_1 ty ?_)) fun r2 s2 hr2 => ?_
      · obtain ⟨⟨c0, d0, x0, y0⟩, z0, z1, k0, z2⟩ := hl
        simp only at z1 z2
        subst z1; subst z2
        have z3 : (s.heap.push (bare led)).get? l = some { cls := .type "tuple", dict := d0, data := .seq items k0, slots := y0 } := Heap.get?_push_of_some _ z0
        have n1 := F.sub_tuple_set; have n2 := F.sub_tuple_frozenset
        have n3 : (Value.type "tuple" == Value.type "dict") = false := by decide
        have tup : (s.heap.push (bare led)).IsTuple l items := ⟨_, z3, rfl, k0, rfl⟩
        unfold Builtin.«set.__init__» noKeywords Builtin.Frozenset.updateFrom
        generalize eIt : pyIter = It
        wp_walk
        subst eIt
        refine wpAny_pyIter_tuple tup (wpAny_bind (wpAny_runValue ?_))
        have ll : l < s.heap.objs.size := Heap.lt_size z0
        have sz : (s.heap.push (bare led)).objs.size = s.heap.objs.size + 1 := Heap.size_push ..
        have li : l ≠ (s.heap.push (bare led)).objs.size := fun q => by
          rw [sz] at q
          exact absurd ll (by rw [q]; exact Nat.not_lt.mpr (Nat.le_succ _))
        have af : s.heap.objs.size ∉ [(s.heap.push (bare led)).objs.size, l] := by
          rw [sz]
          simp only [List.mem_cons, List.not_mem_nil, or_false, not_or]
          exact ⟨Nat.ne_of_lt (Nat.lt_succ_self _), fun q => absurd ll (by rw [← q]; exact Nat.lt_irrefl _)⟩
        have ln : xs.length = items.size := by rw [← StrsAre.len_eq hi, Array.length_toList]
        refine txts_in ((Walks.tuple (show A.in1.in1.in1.handled = none by simp [hh]) _ l li items).toS) af xs ln nd (by omega) (fun i v hv => ?_) items.size 0 _ (by omega) ⟨⟨_, Heap.get?_push_size _ rfl, rfl, rfl⟩, tup.push _⟩ (HasT.bare (led := led) (Heap.get?_push_of_some _ at0)) fun s3 mv H3 => ?_
        · obtain ⟨t, e⟩ := SS.strs_at hi i v (by rw [Array.getElem?_toList]; exact hv)
          have hi2 : i < xs.length := by rw [ln]; exact (Array.getElem?_eq_some_iff.mp hv).1
          refine ⟨xs[i], t, List.getElem?_eq_getElem hi2, ?_⟩
          rw [e, List.getD_eq_getElem?_getD, List.getElem?_eq_getElem hi2]
          rfl
        · obtain ⟨h3, g3, d3, t3, o3⟩ := s3
          obtain rfl : g3 = s.gens := mv.gens
          obtain rfl : d3 = s.drawn := mv.drawn
          obtain rfl : o3 = s.os := mv.os
          refine wpAny_pure (wpAny_pure ⟨rfl, h3, t3, rfl, H3, fun b o z => mv.heap b o ?_ (Heap.get?_push_of_some _ (Heap.get?_push_of_some _ z))⟩)
          have lb := Heap.lt_size z
          rw [sz]
          simp only [List.mem_cons, List.not_mem_nil, or_false, not_or]
          exact ⟨Nat.ne_of_lt lb, Nat.ne_of_lt (Nat.lt_succ_of_lt lb)⟩
      · match r2, hr2 with
        | .error _, hr2 => exact hr2
        | .ok (.ret r), hr2 =>
          obtain ⟨rfl, h', tk, rfl, H', k'⟩ := hr2
          repeat (any_goals (first | assumption | wp_step))
          exact q _ _ H' k')⟩))
end
def tLenST (K : PySem.W.Frag) (ta : TE) : TE := fun σ H Q => ta σ H fun x H1 => ∃ (l : Addr) (xs : List Str), x = .ref l ∧ SqT K H1 l (xs.map V.str) ∧ xs.Nodup ∧ xs.length ≤ 60 ∧ Q (.int (xs.length : Nat)) H1
theorem pe_lenST {X : Cx} {a : Expr} {ta : TE} {p p2 q pos : Pos} (hg : Gl X "len") (hm : X.mg "len" = none) (hg2 : Gl X "set") (hm2 : X.mg "set" = none) (ha : PE X a ta) (hc : X.calm = true := by rfl)
    (na : starEach [a] X.env = (false, eval a X.env) :: starEach [] X.env := by rfl) : PE X (.Call (.Name "len" p) [.Call (.Name "set" p2) [a] [] q] [] pos) (tLenST X.K ta) := ⟨fun pn s σ H Q I h => by
  refine Call_ (ld_blt I hg hm boot_len (callWith_builtin1 (args_cons (Call_ (ld_blt I hg2 hm2 boot_set (callWith_type1 (args_cons (thn (ha.run pn s σ H _ I h) fun v s1 ⟨x, H1, I1, r1, q1⟩ => args_nil ?_) na) na rfl))) rfl) rfl rfl))
  obtain ⟨l, xs, rfl, hs, nd, hl, q1⟩ := q1
  cases r1
  obtain ⟨its, r, tp, _⟩ := I1.tuple hs
  refine set_of_txts (I1.ok.hd hc) tp (by simpa using strsAre_of r) nd (by unfold scanBound; omega) fun h' tk S2 k => args_nil ?_
  obtain ⟨o, es, ep, t, z1, z2, z3, _, _, _, z4, z5⟩ := S2
  have I2 : Inv X pn σ H1 { s1 with heap := h', toks := tk } := I1.kept fun b o e => k b o e
  exact call_len_set z1 z2 z3 z4 (by rw [z5]; omega) ⟨.int xs.length, H1, I2.tok _, ⟨_, by rw [z5]⟩, q1⟩⟩
end Rt
namespace Dl
open PySem PySem.Spec PyProof.Rows L2 Rt
/-! ### xs[i], xs[j] = xs[j], xs[i] of a list of one's own -/
def swSwp (i : Nat) (g1 g2 : EF) : WP Out := ⟨fun ρ b Q => ∃ (es : List D) (j1 j2 : Nat) (x y : D), ρ[i]? = some (some (.own es)) ∧ es[j2]? = some x ∧ es[j1]? = some y ∧ g1 (shutR true ρ) = some (.int (j1 : Nat)) ∧ g2 (shutR true ρ) = some (.int (j2 : Nat)) ∧ g2 (shutR true (ρ.set i (some (.own (es.set j1 x))))) = some (.int (j2 : Nat)) ∧ Q (.nx (ρ.set i (some (.own ((es.set j1 x).set j2 y))))) b, fun h ⟨es, j1, j2, x, y, a1, a2, a3, a4, a5, a6, q⟩ => ⟨es, j1, j2, x, y, a1, a2, a3, a4, a5, a6, h _ _ q⟩⟩
theorem ixN_of {n j : Nat} (h : j < n) : ixN n (j : Int) = some j := by
  unfold ixN
  rw [if_pos (by omega), if_pos (by omega)]
  simp
section
variable {X : Cx} {K : PySem.W.Frag}
theorem nS_swp {st : Stmt} {i : Nat} {g1 g2 : EF} (h : PS X st (tAsg (tTupF (tCons (tOp (rIxL X.K) (tVar i) (tD true g2)) (tCons (tOp (rIxL X.K) (tVar i) (tD true g1)) tNil))) (gTup X.K 2 (gCons (gSub (tVar i) (tD true g1) rSetLL) (gCons (gSub (tVar i) (tD true g2) rSetLL) gNil))))) : PS X st (tSn (swSwp i g1 g2)) := h.wk fun Dn σ H q => by
  obtain ⟨g, M0, H0, ρ, b, R, es, j1, j2, x, y, a1, ex, ey, e1, e2, e3, q⟩ := q
  obtain ⟨p, us, a, c, h0, l, r⟩ := R.own i es a1
  have lj1 : j1 < es.length := (List.getElem?_eq_some_iff.mp ey).1
  have lj2 : j2 < es.length := (List.getElem?_eq_some_iff.mp ex).1
  obtain ⟨v, ev, rx⟩ := r.atI (L2.atI_nat ex)
  obtain ⟨w, ew, ry⟩ := r.atI (L2.atI_nat ey)
  refine ⟨.ref p, a, _, H, _, .int (j2 : Nat), R.rs true, e2, fun u H2 s2 r2 => ?_⟩
  cases r2
  refine ⟨p, us, (j2 : Nat), v, rfl, rfl, SqL.of (s2 _ _ c), ev, .ref p, a, _, H2, _, .int (j1 : Nat), (R.mono s2).rs true, e1, fun u H3 s3 r3 => ?_⟩
  cases r3
  refine ⟨p, us, (j1 : Nat), w, rfl, rfl, SqL.of ((s2.trans s3) _ _ c), ew, ?_⟩
  refine ⟨sz (by show 2 ≤ 100000; decide), fun p3 H4 np3 s4 t3 => ⟨p3, _, rfl, t3.sq, rfl, ?_⟩⟩
  have s04 := (s2.trans s3).trans s4
  have R4 := R.mono s04
  refine ⟨v, [w], rfl, .ref p, a, _, H4, _, .int (j1 : Nat), R4.rs true, e1, fun u H5 s5 r5 => ?_⟩
  cases r5
  have c5 := (s04.trans s5) _ _ c
  refine ⟨p, us, (j1 : Nat), j1, rfl, rfl, c5, by rw [r.len]; exact ixN_of lj1, fun H6 e6 => ?_⟩
  subst e6
  have R5 := R4.mono s5
  obtain ⟨R6, S6⟩ := R5.ownSet a1 a c5 (vs' := us.set j1 v) (ds' := es.set j1 x) (by rw [List.length_set]; exact l) (RpAll.set (rx.mono (.of (s04.trans s5))) j1 (r.mono (.of (s04.trans s5))))
  have hi : i < ρ.length := (List.getElem?_eq_some_iff.mp a1).1
  have b1' : (ρ.set i (some (.own (es.set j1 x))))[i]? = some (some (.own (es.set j1 x))) := set_same hi
  have mp : Mu true M0 σ ρ p := .inr ⟨rfl, i, es, a1, a⟩
  have mu : ∀ a', Mu true M0 σ (ρ.set i (some (.own (es.set j1 x)))) a' → Mu true M0 σ ρ a' := fun a' m => by
    rcases m with m | ⟨_, j, es', f1, f2⟩
    · exact .inl m
    · rcases set_get f1 with ⟨rfl, _⟩ | ⟨n, f1⟩
      · rw [a] at f2
        cases f2
        exact mp
      · exact .inr ⟨rfl, j, es', f1, f2⟩
  have kp5 : KpM (Mu true M0 σ ρ) H5 (upd H5 p (.lst (us.set j1 v))) := fun o q n e => by
    rw [upd_ne (fun z => n (by rw [z]; exact mp))]
    exact e
  refine ⟨w, [], rfl, .ref p, a, _, _, _, .int (j2 : Nat), R6.rs true, e3, fun u H7 s7 r7 => ?_⟩
  cases r7
  have c7 : H7 p = some (.lst (us.set j1 v)) := s7 _ _ upd_same
  refine ⟨p, us.set j1 v, (j2 : Nat), j2, rfl, rfl, c7, by rw [List.length_set, r.len]; exact ixN_of lj2, fun H8 e8 => ?_⟩
  subst e8
  have R7 := R6.mono s7
  have rs : RpAll (Mu true M0 σ (ρ.set i (some (.own (es.set j1 x))))) H7 ((us.set j1 v).set j2 w) ((es.set j1 x).set j2 y) := by
    refine RpAll.reM (fun a' m => .inl (mu a' m)) (RpAll.set ?_ j2 ?_)
    · exact ((ry.mono (.of (s04.trans s5))).mono kp5).mono (.of s7)
    · exact ((RpAll.set (rx.mono (.of (s04.trans s5))) j1 (r.mono (.of (s04.trans s5)))).mono kp5).mono (.of s7)
  obtain ⟨R8, S8⟩ := R7.ownSet b1' a c7 (vs' := (us.set j1 v).set j2 w) (ds' := (es.set j1 x).set j2 y) (by rw [List.length_set, List.length_set]; exact l) rs
  rw [List.set_set] at R8 S8
  exact ⟨rfl, q _ _ R8 (((Stp.of s04).trans (Stp.of s5)).trans (S6.trans ((Stp.of s7).trans S8)))⟩
/-- a new list of one's own: text.split(t) -/
theorem oE_split {o e : Expr} {apos pos : Pos} {f g : EF} (ho : PE X o (tD true f)) (he : PE X e (tD true g)) (hs : starEach [e] X.env = [(false, eval e X.env)] := by rfl) (hbase : attributeBase o "split" X.env (eval o X.env) = eval o X.env := by rfl) (hline : (apos.endLine == pos.line) = true := by rfl) :
    PE X (.Call (.Attribute o "split" apos) [e] [] pos) (tN (e2 splitD f g)) := (pe_split ho he hs hbase hline).wk fun σ H Q q => by
  obtain ⟨M0, H0, ρ, d, R, e, q⟩ := q
  obtain ⟨x, ex, e⟩ := some_bind e
  obtain ⟨y, ey, e⟩ := some_bind e
  refine ⟨M0, H0, ρ, x, R, ex, fun v H1 s1 r1 => ?_⟩
  cases x <;> try (cases e; done)
  rename_i a
  cases r1
  refine ⟨⟨_, rfl⟩, M0, H0, ρ, y, R.mono s1, ey, fun u H2 s2 r2 => ?_⟩
  cases r2 <;> try (cases e; done)
  rename_i b hb
  obtain ⟨⟨l1, l2, l3, l4⟩, e⟩ := iteS e
  cases e
  refine ⟨_, _, rfl, rfl, l1, l2, fun p hp => q _ _ _ ?_ ((s1.trans s2).trans (smN hp)) upd_same (by rw [List.length_map]; exact l3) (RpAll.strM l4)⟩
  cases z : H p with
  | none => rfl
  | some o => rw [(s1.trans s2) _ _ z] at hp; cases hp
/-! ### len(set(t)) of texts that are told apart -/
def setL : List D → Option D
  | [.tuple ds] => (strsD ds).bind fun xs => if xs.Nodup ∧ xs.length ≤ 60 then some (.int (xs.length : Nat)) else none
  | _ => none
theorem dE_lenSet {a : Expr} {f : EF} {μ : Bool} {p p2 q pos : Pos} (hg : Gl X "len") (hm : X.mg "len" = none) (hg2 : Gl X "set") (hm2 : X.mg "set" = none) (ha : PE X a (tD μ f)) (hc : X.calm = true := by rfl)
    (na : starEach [a] X.env = (false, eval a X.env) :: starEach [] X.env := by rfl) : PE X (.Call (.Name "len" p) [.Call (.Name "set" p2) [a] [] q] [] pos) (tD μ (fun ρ => (f ρ).bind fun d => setL [d])) := (pe_lenST hg hm hg2 hm2 ha hc na).wk fun σ H Q q => by
  obtain ⟨M0, H0, ρ, d, R, e, q⟩ := q
  obtain ⟨x, ex, e⟩ := some_bind e
  refine ⟨M0, H0, ρ, x, R, ex, fun v H1 s1 r1 => ?_⟩
  match x, e, r1 with
  | .tuple ds, e, @Rp.tup _ _ a1 xs1 _ t n l r =>
    obtain ⟨ys, ez, e⟩ := some_bind (show (strsD ds).bind _ = some d from e)
    obtain ⟨⟨l1, l2⟩, e⟩ := iteS e
    cases e
    have := strsD.get ez
    subst this
    obtain ⟨rfl, _⟩ := r.strL
    exact ⟨_, ys, rfl, t.sq, l1, l2, q _ H1 s1 (.int _)⟩
end
end Dl
namespace Rt
open PySem PySem.Spec PyProof.Rows L2
section
variable {prog : Program} {w : World} {A : Around} {E : Value → Shared → Prop} {s : Shared}
theorem collect_tup {t : Addr} {us : List Value} {Q : List Value → Shared → Prop} (ht : IsTup s.heap t us.toArray)
    (hq : Q us { s with heap := (s.heap.push (seqObj "list" #[] 0)).update s.heap.objs.size (Obj.mapSeq (· ++ us.toArray)) }) (hz : us.length ≤ sizeLine) :
    wpAny (model prog w) A (collect (.ref t)) Q E s := by
  obtain ⟨ob, hob, hcl, m, hdt⟩ := id ht
  unfold collect
  refine wpAny_bind (wpAny_runValue (codeAny_builtin entry_proto_collect' ?_))
  show wpAny _ _ (do again (.builtin "list.__iadd__" ⟨[← newList [], .ref t], []⟩)) _ _ s
  refine wpAny_bind (wpAny_newList (wpAny_pure ⟨Code.quiet_builtin _ (by decide +kernel), codeAny_builtin entry_list_iadd' ?_⟩))
  show wpAny _ _ (Builtin.List.listExtendWith (.ref s.heap.objs.size) (.ref t) (.ref s.heap.objs.size)) _ _ { s with heap := s.heap.push (seqObj "list" #[] 0) }
  unfold Builtin.List.listExtendWith
  have hob' : (s.heap.push (seqObj "list" #[] 0)).get? t = some ob := Heap.get?_push_of_some _ hob
  refine wpAny_bind (wpAny_typeOf (T := "tuple") ⟨ob, hob', hcl⟩ ?_)
  have htt : (Value.type "tuple" == Value.type "tuple") = true := by rfl
  rw [if_pos (by rw [htt]; simp)]
  refine wpAny_bind (listItems_at hob' hdt ?_)
  refine wpAny_bind (listItems_at (xs := #[]) (n := 0) (Heap.get?_push_size _ rfl) rfl ?_)
  rw [if_neg (by simp)]
  refine wpAny_bind (listUpdate_at (xs := #[]) (n := 0) (Heap.get?_push_size _ rfl) rfl ?_ (Nat.zero_le _) (by show (#[] ++ us.toArray).size ≤ sizeLine + 1; simp only [Array.size_append, List.size_toArray, List.length_nil]; omega))
  refine wpAny_pure ?_
  show wpAny (model prog w) A (do
      let ld ← load s.heap.objs.size
      match ld.data with
      | .seq xs _ => pure xs.toList
      | _ => unsupported "internal:collect") Q E { s with heap := (s.heap.push (seqObj "list" #[] 0)).update s.heap.objs.size (Obj.mapSeq (· ++ us.toArray)) }
  refine wpAny_bind (wpAny_load (get?_update_seq (Heap.get?_push_size _ rfl) _) ?_)
  show wpAny _ _ (pure ((#[] : Array Value) ++ us.toArray).toList) Q E _
  rw [show ((#[] : Array Value) ++ us.toArray).toList = us by simp]
  exact wpAny_pure hq
theorem sorted_tup {t : Addr} {us : List Value} {ns : List Int} {Q : Value → Shared → Prop} (ht : IsTup s.heap t us.toArray) (hI : IntsAre us ns) (h64 : us.length < 64)
    (hq : ∀ (out : Array Value) (ns' : List Int), IntsAre out.toList ns' → ns'.Perm ns → ns'.Pairwise (· ≤ ·) → Q (.ref (s.heap.objs.size + 1)) { s with heap := sortedAll s.heap us out }) :
    wpAny (model prog w) A (call (.builtin "sorted") [.ref t]) Q E s := by
  refine Calls.call_function_entry kind_sorted plain_sorted entry_sorted (args_sorted1 _) ?_
  unfold Builtin.«sorted»
  refine wpAny_bind (m := checkCount "sorted" 1 1 _) (wpAny_pure ?_)
  refine wpAny_bind (collect_tup ht ?_ (small64 h64))
  refine wpAny_bind (wpAny_newList ?_)
  have e1 : ((s.heap.push (seqObj "list" #[] 0)).update s.heap.objs.size (Obj.mapSeq (· ++ us.toArray))).objs.size = s.heap.objs.size + 1 := by
    rw [Heap.size_update, size_push']
  have hoL : (((s.heap.push (seqObj "list" #[] 0)).update s.heap.objs.size (Obj.mapSeq (· ++ us.toArray))).push (seqObj "list" us.toArray 0)).get? (s.heap.objs.size + 1) = some (seqObj "list" us.toArray 0) := by
    rw [← e1]; exact Heap.get?_push_size _ rfl
  show wpAny _ _ _ _ _ { s with heap := ((s.heap.push (seqObj "list" #[] 0)).update s.heap.objs.size (Obj.mapSeq (· ++ us.toArray))).push (seqObj "list" us.toArray 0) }
  rw [e1]
  refine wpAny_bind (wpAny_holding (wpAny_call_entry slot_list_sort ⟨_, hoL, rfl⟩ entry_list_sort (list_sort_tree hoL hI h64 fun out ns' a1 a2 a3 => ⟨_, rfl, ?_⟩) (args_list_sort _)))
  exact wpAny_pure ⟨_, rfl, hq out ns' a1 a2 a3⟩
end
section
variable {X : Cx}
def rSortedTp (K : PySem.W.Frag) : List V → Hp → VK → Prop := fun vs H Q => ∃ (a : Addr) (ns : List Int), vs = [V.ref a] ∧ SqT K H a (ns.map V.int) ∧ ns.length < 64 ∧
  ∀ (ns' : List Int) (p : Addr) (H' : Hp), ns'.Perm ns → ns'.Pairwise (· ≤ ·) → H p = none → H' = upd H p (.lst (ns'.map V.int)) → Q (.ref p) H'
theorem cr_sortedTp : CallR X (.builtin "sorted") (rSortedTp X.K) := by
  intro pn s σ H vs us Q I r h
  obtain ⟨a, ns, rfl, hs, h64, q⟩ := h
  obtain ⟨its, rv, hl, _⟩ := I.tuple hs
  rw [Vals.ref1 r]
  have hi := rv.ints
  refine sorted_tup hl hi (by rw [hi.length]; exact h64) fun out ns' h1 h2 h3 => ?_
  obtain ⟨ep, he'⟩ := PyProof.Rows.sortedAll_at s.heap its out
  have hln : (ns'.map V.int).length ≤ sizeLine := by rw [List.length_map, h2.length_eq]; exact small64 h64
  exact ⟨.ref _, upd H (s.heap.objs.size + 1) (.lst (ns'.map V.int)), I.laid (t' := s.toks) (fun _ _ => PyProof.Rows.sortedAll_old) (Nat.le_succ _) ⟨hln, out.toList, ep, vals_of_ints h1, he'⟩, rfl, q ns' _ _ h2 h3 (I.hok.fresh (Nat.le_succ _)) rfl⟩
end
end Rt
namespace Rt
open PySem PySem.Spec PyProof.Rows L2
section
variable {prog : Program} {w : World} {A : Around} {E : Value → Shared → Prop} {s : Shared}
/-! ### sorted(t), t a tuple of texts -/
theorem sorted_tupS {t : Addr} {us : List Value} {ss : List Str} {Q : Value → Shared → Prop} (ht : IsTup s.heap t us.toArray) (hS : StrsAre us ss) (h64 : us.length < 64)
    (hq : ∀ (out : Array Value) (ss' : List Str), StrsAre out.toList ss' → ss'.Perm ss → sortedS ss' = true → Q (.ref (s.heap.objs.size + 1)) { s with heap := sortedAll s.heap us out }) :
    wpAny (model prog w) A (call (.builtin "sorted") [.ref t]) Q E s := by
  refine Calls.call_function_entry kind_sorted plain_sorted entry_sorted (args_sorted1 _) ?_
  unfold Builtin.«sorted»
  refine wpAny_bind (m := checkCount "sorted" 1 1 _) (wpAny_pure ?_)
  refine wpAny_bind (collect_tup ht ?_ (small64 h64))
  refine wpAny_bind (wpAny_newList ?_)
  have e1 : ((s.heap.push (seqObj "list" #[] 0)).update s.heap.objs.size (Obj.mapSeq (· ++ us.toArray))).objs.size = s.heap.objs.size + 1 := by
    rw [Heap.size_update, size_push']
  have hoL : (((s.heap.push (seqObj "list" #[] 0)).update s.heap.objs.size (Obj.mapSeq (· ++ us.toArray))).push (seqObj "list" us.toArray 0)).get? (s.heap.objs.size + 1) = some (seqObj "list" us.toArray 0) := by
    rw [← e1]; exact Heap.get?_push_size _ rfl
  show wpAny _ _ _ _ _ { s with heap := ((s.heap.push (seqObj "list" #[] 0)).update s.heap.objs.size (Obj.mapSeq (· ++ us.toArray))).push (seqObj "list" us.toArray 0) }
  rw [e1]
  refine wpAny_bind (wpAny_holding (wpAny_call_entry slot_list_sort ⟨_, hoL, rfl⟩ entry_list_sort (list_sort_treeK strKind_oneLt hoL hS.keysOf (fun v₁ v₂ rest e => keyKind_strs (by rw [← e]; exact hS)) h64 fun st' a1 a2 => ⟨_, rfl, ?_⟩) (args_list_sort _)))
  obtain ⟨ss', b1, b2, b3⟩ := sorted_out_str hS a1 a2
  exact wpAny_pure ⟨_, rfl, hq _ ss' b1 b2 b3⟩
end
end Rt
namespace Dl
open PySem PySem.Spec PyProof.Rows L2 Rt
/-- what sorted tells of texts that are told apart -/
theorem sS_lt : ∀ a b : List Nat, ltCps a b = decide (a < b)
  | [], [] => by simp [ltCps]
  | _ :: _, [] => by simp [ltCps]
  | [], b :: t => by simp [ltCps]
  | a :: r, b :: t => by
    show (decide (a < b) || (a == b && ltCps r t)) = _
    rw [sS_lt r t, Bool.eq_iff_iff]
    simp [List.cons_lt_cons_iff]
theorem sS_tri : ∀ a b : List Nat, ¬ b < a → a ≠ b → a < b
  | [], [], _, h => (h rfl).elim
  | [], _ :: _, _, _ => List.nil_lt_cons _ _
  | _ :: _, [], h, _ => (h (List.nil_lt_cons _ _)).elim
  | a :: r, b :: t, h, hn => by
    rw [List.cons_lt_cons_iff] at h ⊢
    rcases Nat.lt_trichotomy a b with q | q | q
    · exact .inl q
    · subst q
      exact .inr ⟨rfl, sS_tri r t (fun w => h (.inr ⟨rfl, w⟩)) fun w => hn (by rw [w])⟩
    · exact (h (.inl q)).elim
theorem sS_tr : ∀ a b c : List Nat, a < b → b < c → a < c
  | a, [], _, h, _ => (List.not_lt_nil _ h).elim
  | a, _ :: _, [], _, h => (List.not_lt_nil _ h).elim
  | [], _ :: _, _ :: _, _, _ => List.nil_lt_cons _ _
  | a :: r, b :: t, c :: u, h1, h2 => by
    rw [List.cons_lt_cons_iff] at h1 h2 ⊢
    rcases h1 with h1 | ⟨rfl, h1⟩
    · rcases h2 with h2 | ⟨rfl, h2⟩
      · exact .inl (Nat.lt_trans h1 h2)
      · exact .inl h1
    · rcases h2 with h2 | ⟨rfl, h2⟩
      · exact .inl h2
      · exact .inr ⟨rfl, sS_tr r t u h1 h2⟩
theorem sS_irr : ∀ a : List Nat, ¬ a < a
  | [], h => List.not_lt_nil _ h
  | a :: r, h => by
    rw [List.cons_lt_cons_iff] at h
    rcases h with h | ⟨_, h⟩
    · omega
    · exact sS_irr r h
theorem sS_ext {x y : Str} (h : x.cps.toList = y.cps.toList) : x = y := Str.ext' (Array.toList_inj.mp h)
def leS (a b : Str) : Prop := ¬ b.cps.toList < a.cps.toList
theorem leS_tr {a b c : Str} (h1 : leS a b) (h2 : leS b c) : leS a c := fun h => by
  by_cases e : a.cps.toList = b.cps.toList
  · rw [e] at h
    exact h2 h
  · exact h2 (sS_tr _ _ _ h (sS_tri _ _ h1 e))
theorem leS_an {a b : Str} (h1 : leS a b) (h2 : leS b a) : a = b := by
  by_cases e : a.cps.toList = b.cps.toList
  · exact sS_ext e
  · exact (h2 (sS_tri _ _ h1 e)).elim
theorem risS_pw : ∀ (r : List Str) (p : Str), risingS p r = true → (p :: r).Pairwise leS
  | [], p, _ => List.pairwise_singleton ..
  | x :: r, p, h => by
    have h := Bool.and_eq_true_iff.mp (show (!ltCps x.cps.toList p.cps.toList && risingS x r) = true from h)
    have h1 : leS p x := by
      have := h.1
      rw [sS_lt] at this
      simpa [leS] using this
    have ih := risS_pw r x h.2
    refine List.pairwise_cons.mpr ⟨fun y hy => ?_, ih⟩
    rcases List.mem_cons.mp hy with rfl | hy
    · exact h1
    · exact leS_tr h1 ((List.pairwise_cons.mp ih).1 y hy)
theorem sorS_pw : ∀ {ys : List Str}, sortedS ys = true → ys.Pairwise leS
  | [], _ => .nil
  | x :: r, h => risS_pw r x h
theorem sorS_uniq : ∀ {a b : List Str}, a.Perm b → a.Pairwise leS → b.Pairwise leS → a = b
  | [], b, p, _, _ => (List.nil_perm.mp p).symm
  | x :: a, [], p, _, _ => absurd p.length_eq (by simp)
  | x :: a, y :: b, p, ha, hb => by
    have h1 := List.pairwise_cons.mp ha
    have h2 := List.pairwise_cons.mp hb
    have e : x = y := by
      rcases List.mem_cons.mp (p.mem_iff.mp (List.mem_cons_self (a := x) (l := a))) with e | m1
      · exact e
      · rcases List.mem_cons.mp (p.mem_iff.mpr (List.mem_cons_self (a := y) (l := b))) with e | m2
        · exact e.symm
        · exact leS_an (h1.1 y m2) (h2.1 x m1)
    subst e
    rw [sorS_uniq (List.perm_cons x |>.mp p) h1.2 h2.2]
/-- the sorted ones among the lists of the same texts: there is one at most -/
noncomputable def sorTD : List D → Option D
  | [.tuple ds] => (strsD ds).bind fun zs => @dite _ (zs.length < 64 ∧ ∃ ys : List Str, ys.Perm zs ∧ sortedS ys = true) (Classical.propDecidable _) (fun h => some (.list (h.2.choose.map .str))) (fun _ => none)
  | _ => none
theorem sorTD_ok {zs ys : List Str} (h64 : zs.length < 64) (p : ys.Perm zs) (s : sortedS ys = true) : sorTD [.tuple (zs.map .str)] = some (.list (ys.map .str)) := by
  show (strsD (zs.map .str)).bind _ = _
  rw [strsD.map]
  have h : zs.length < 64 ∧ ∃ ys : List Str, ys.Perm zs ∧ sortedS ys = true := ⟨h64, ys, p, s⟩
  refine (@dif_pos _ (Classical.propDecidable _) h _ _ _).trans ?_
  have c := h.2.choose_spec
  rw [sorS_uniq (c.1.trans p.symm) (sorS_pw c.2) (sorS_pw s)]
section
variable {X : Cx}
def rSortedTS (K : PySem.W.Frag) : List V → Hp → VK → Prop := fun vs H Q => ∃ (a : Addr) (ss : List Str), vs = [V.ref a] ∧ SqT K H a (ss.map V.str) ∧ ss.length < 64 ∧
  ∀ (ys : List Str) (p : Addr), ys.Perm ss → sortedS ys = true → H p = none → Q (.ref p) (upd H p (.lst (ys.map V.str)))
theorem cr_sortedTS : CallR X (.builtin "sorted") (rSortedTS X.K) := by
  intro pn s σ H vs us Q I r h
  obtain ⟨a, ss, rfl, hs, h64, q⟩ := h
  obtain ⟨its, rv, hl, _⟩ := I.tuple hs
  rw [Vals.ref1 r]
  have hln := rv.length
  rw [List.length_map] at hln
  refine sorted_tupS hl rv.strs (by rw [← hln]; exact h64) fun out ys h1 h2 h3 => ?_
  obtain ⟨ep, he'⟩ := PyProof.Rows.sortedAll_at s.heap its out
  have hlen : (ys.map V.str).length ≤ sizeLine := by rw [List.length_map, h2.length_eq]; exact L2.small64 h64
  exact ⟨.ref _, upd H (s.heap.objs.size + 1) (.lst (ys.map V.str)), I.laid (t' := s.toks) (fun _ _ => PyProof.Rows.sortedAll_old) (Nat.le_succ _) ⟨hlen, out.toList, ep, vals_of_strs h1, he'⟩, rfl, q ys _ h2 h3 (I.hok.fresh (Nat.le_succ _))⟩
theorem c_sorT : CallR X (.builtin "sorted") (rC sorTD) := by
  intro pn s σ H xs us Q I r h
  obtain ⟨M, ds, d, dm, ra, e, q⟩ := h
  match ds, ra, e with
  | [.tuple ds], .cons (.tup t n l rr) .nil, e =>
    obtain ⟨zs, ez, e'⟩ := some_bind (show (strsD ds).bind _ = some d from e)
    have hd := strsD.get ez
    subst hd
    obtain ⟨rfl, hz⟩ := rr.strL
    by_cases hc : zs.length < 64 ∧ ∃ ys : List Str, ys.Perm zs ∧ sortedS ys = true
    · refine cr_sortedTS pn s σ H _ us Q I r ⟨_, zs, rfl, t.sq, hc.1, fun ys p perm srt np => ?_⟩
      have e2 := sorTD_ok hc.1 perm srt
      have e3 : sorTD [.tuple (zs.map .str)] = some d := by
        exact e
      rw [e2] at e3
      cases e3
      have ly : ys.length ≤ sizeLine := by rw [perm.length_eq]; exact L2.small64 hc.1
      exact q _ _ (smN np) (.lst upd_same (dm.not np) (by rw [List.length_map]; exact ly) (RpAll.strM fun y hy => hz y (perm.mem_iff.mp hy)))
    · have : (none : Option D) = some d := (@dif_neg _ (Classical.propDecidable _) hc _ _ _).symm.trans e'
      cases this
end
end Dl
namespace Dl
open PySem PySem.Spec PyProof.Rows L2 Rt TL
theorem ne_str (z : Str) : neZ (.str z) (.str z) = some (.bool false) := by
  show some (PyData.bool (!PyData.eqv (.str z) (.str z))) = _
  have : PyData.eqv (.str z) (.str z) = true := by simp [PyData.eqv]
  rw [this]
  rfl
theorem txt_ok {X : Wd} (h : WdB X) : PyData.strOk (txt X) = true := strOk_iff.mpr fun c hc => jl_all (S := [10]) (Pc := fun c => c < 1114112) (by decide) (fun p hp d hd => by
  obtain ⟨z, hz, rfl⟩ := List.mem_map.mp hp
  exact strOk_iff.mp (lns_ok h z hz).1 d hd) c hc
theorem dp_wd {X : Wd} (h : X.ok) : dpA 6 X.d := by
  have k4 := h.k4; have sl := h.sl; have wl := h.wl
  refine ⟨by show 4 ≤ 1000; decide, fun d hd => ?_⟩
  simp only [List.mem_cons, List.not_mem_nil, or_false] at hd
  rcases hd with rfl | rfl | rfl | rfl
  · trivial
  · refine ⟨by rw [List.length_map]; omega, fun d hd => ?_⟩
    obtain ⟨z, hz, rfl⟩ := List.mem_map.mp hd
    exact ok_nm (h.kg z hz)
  · refine ⟨by rw [List.length_map]; omega, fun d hd => ?_⟩
    obtain ⟨s, hs, rfl⟩ := List.mem_map.mp hd
    refine ⟨by show 5 ≤ 1000; decide, fun d hd => ?_⟩
    simp only [List.mem_cons, List.not_mem_nil, or_false] at hd
    rcases hd with rfl | rfl | rfl | rfl | rfl
    · exact ok_nm (h.kg _ (h.ss s hs).k)
    all_goals trivial
  · refine ⟨by rw [List.length_map]; omega, fun d hd => ?_⟩
    obtain ⟨y, hy, rfl⟩ := List.mem_map.mp hd
    have o := h.ws y hy
    have p3 := o.p3; have hl := o.hl
    refine ⟨by show 5 ≤ 1000; decide, fun d hd => ?_⟩
    simp only [List.mem_cons, List.not_mem_nil, or_false] at hd
    rcases hd with rfl | rfl | rfl | rfl | rfl
    · exact ok_nm (h.kg _ o.k)
    · refine ⟨by rw [List.length_map]; omega, fun d hd => ?_⟩
      obtain ⟨p, hp, rfl⟩ := List.mem_map.mp hd
      refine ⟨by show 3 ≤ 1000; decide, fun d hd => ?_⟩
      simp only [List.mem_cons, List.not_mem_nil, or_false] at hd
      rcases hd with rfl | rfl | rfl
      · exact ok_nm (h.kg _ (o.ps p hp).k)
      all_goals trivial
    · exact kp_ok o.kp
    · refine ⟨by rw [List.length_map]; omega, fun d hd => ?_⟩
      obtain ⟨i, hi, rfl⟩ := List.mem_map.mp hd
      trivial
    · trivial
/-! ### beginnings of a text, lines exchanged -/
theorem pre_lns {X : Wd} (i : Nat) : lns (pre X (i + 2)) = (lns X).take (i + 2) := by
  have e : (lns X).take (i + 2) = ln [cs "round", nL X.n] :: ln (cs "kinds" :: X.ks.map fun z => z.cps.toList) :: (X.ss.map (fun s => ln (srcW s)) ++ X.ws.map fun y => ln (wyW y)).take i := rfl
  rw [e, List.take_append, List.length_map, ← List.map_take, ← List.map_take]
  rfl
def exS (X : Wd) (a b : Nat) (x y : Sr) : Wd := ⟨X.n, X.ks, (X.ss.set a x).set b y, X.ws⟩
def exW (X : Wd) (a b : Nat) (x y : Wy) : Wd := ⟨X.n, X.ks, X.ss, (X.ws.set a x).set b y⟩
theorem mem_ex {α : Type} {xs : List α} {a b : Nat} {x y z : α} (hx : x ∈ xs) (hy : y ∈ xs) (h : z ∈ (xs.set a x).set b y) : z ∈ xs := by
  rcases List.mem_or_eq_of_mem_set h with h | rfl
  · rcases List.mem_or_eq_of_mem_set h with h | rfl
    · exact h
    · exact hx
  · exact hy
theorem exS_ok {X : Wd} {a b : Nat} {x y : Sr} (h : X.ok) (hx : x ∈ X.ss) (hy : y ∈ X.ss) : (exS X a b x y).ok := ⟨h.n1, h.n6, h.k1, h.k4, h.ks, h.kg, h.kr, by show ((X.ss.set a x).set b y).length ≤ 6; rw [List.length_set, List.length_set]; exact h.sl, fun s hs => h.ss s (mem_ex hx hy hs), h.wl, h.ws⟩
theorem exW_ok {X : Wd} {a b : Nat} {x y : Wy} (h : X.ok) (hx : x ∈ X.ws) (hy : y ∈ X.ws) : (exW X a b x y).ok := ⟨h.n1, h.n6, h.k1, h.k4, h.ks, h.kg, h.kr, h.sl, h.ss, by show ((X.ws.set a x).set b y).length ≤ 8; rw [List.length_set, List.length_set]; exact h.wl, fun s hs => h.ws s (mem_ex hx hy hs)⟩
theorem exS_lns {X : Wd} {a b : Nat} {x y : Sr} (ha : a < X.ss.length) (hb : b < X.ss.length) : lns (exS X a b x y) = ((lns X).set (2 + a) (ln (srcW x))).set (2 + b) (ln (srcW y)) := by
  rw [show 2 + a = a + 1 + 1 by omega, show 2 + b = b + 1 + 1 by omega]
  show _ :: _ :: (((X.ss.set a x).set b y).map (fun s => ln (srcW s)) ++ _) = _ :: _ :: ((X.ss.map (fun s => ln (srcW s)) ++ X.ws.map fun y => ln (wyW y)).set a _).set b _
  rw [List.set_append_left a (h := by rw [List.length_map]; exact ha), List.set_append_left b (h := by rw [List.length_set, List.length_map]; exact hb), List.map_set, List.map_set]
  rfl
theorem exW_lns {X : Wd} {a b : Nat} {x y : Wy} : lns (exW X a b x y) = ((lns X).set (2 + X.ss.length + a) (ln (wyW x))).set (2 + X.ss.length + b) (ln (wyW y)) := by
  rw [show 2 + X.ss.length + a = X.ss.length + a + 1 + 1 by omega, show 2 + X.ss.length + b = X.ss.length + b + 1 + 1 by omega]
  show _ :: _ :: (_ ++ ((X.ws.set a x).set b y).map (fun s => ln (wyW s))) = _ :: _ :: ((X.ss.map (fun s => ln (srcW s)) ++ X.ws.map fun y => ln (wyW y)).set (X.ss.length + a) _).set (X.ss.length + b) _
  rw [List.set_append_right (X.ss.length + a) (h := by rw [List.length_map]; omega), List.set_append_right (X.ss.length + b) (h := by rw [List.length_map]; omega), List.length_map, Nat.add_sub_cancel_left, Nat.add_sub_cancel_left, List.map_set, List.map_set]
  rfl
/-! ### other names -/
def rnm : List Str → List Str → Str → Option Str
  | k :: ks, o :: os, z => if k = z then some o else rnm ks os z
  | _, _, _ => none
def rS (ks os : List Str) (z : Str) : Str := (rnm ks os z).getD z
def esD (ks os : List Str) : List (D × D) := (ks.zip os).map fun p => (.str p.1, .str p.2)
theorem look_es : ∀ (ks os : List Str) (z : Str), lookD (.inr z) (esD ks os) = (rnm ks os z).map .str
  | [], _, _ => rfl
  | _ :: _, [], _ => rfl
  | k :: ks, o :: os, z => by
    show (if keyOf (.str k) = some (.inr z) then some (PyData.str o) else lookD (.inr z) (esD ks os)) = _
    unfold rnm
    by_cases h : k = z
    · rw [if_pos (by rw [h]; rfl), if_pos h]
      rfl
    · rw [if_neg (fun e => h (by injection e with e; injection e)), if_neg h]
      exact look_es ks os z
theorem rnm_no : ∀ {ks os : List Str} {z : Str}, z ∉ ks → rnm ks os z = none
  | [], _, _, _ => rfl
  | _ :: _, [], _, _ => rfl
  | k :: ks, o :: os, z, h => by
    unfold rnm
    rw [if_neg (fun e => h (by rw [e]; exact List.mem_cons_self))]
    exact rnm_no fun m => h (List.mem_cons_of_mem _ m)
theorem rnm_mem : ∀ {ks os : List Str} {z : Str}, z ∈ ks → ks.length = os.length → ∃ o ∈ os, rnm ks os z = some o
  | k :: ks, [], z, _, l => nomatch l
  | k :: ks, o :: os, z, h, l => by
    unfold rnm
    by_cases e : k = z
    · exact ⟨o, List.mem_cons_self, if_pos e⟩
    · rw [if_neg e]
      obtain ⟨o', h1, h2⟩ := rnm_mem (os := os) ((List.mem_cons.mp h).resolve_left fun q => e q.symm) (Nat.succ.inj l)
      exact ⟨o', List.mem_cons_of_mem _ h1, h2⟩
theorem rnm_all : ∀ {ks os : List Str}, ks.Nodup → ks.length = os.length → ks.map (rS ks os) = os
  | [], [], _, _ => rfl
  | [], _ :: _, _, l => nomatch l
  | _ :: _, [], _, l => nomatch l
  | k :: ks, o :: os, nd, l => by
    obtain ⟨n1, n2⟩ := List.nodup_cons.mp nd
    have e1 : rS (k :: ks) (o :: os) k = o := by
      unfold rS rnm
      rw [if_pos rfl]
      rfl
    have e2 : ks.map (rS (k :: ks) (o :: os)) = ks.map (rS ks os) := List.map_congr_left fun z hz => by
      unfold rS
      rw [show rnm (k :: ks) (o :: os) z = rnm ks os z from if_neg fun e => n1 (by rw [e]; exact hz)]
    rw [List.map_cons, e1, e2, rnm_all n2 (Nat.succ.inj l)]
theorem any_es : ∀ {kvs : List (Str × Str)} {k : Str}, k ∉ kvs.map (·.1) → ((kvs.map fun p => ((.str p.1, .str p.2) : D × D)).any fun e => decide (keyOf e.1 = some (.inr k))) = false
  | [], _, _ => rfl
  | p :: kvs, k, h => by
    rw [List.map_cons, List.any_cons, any_es fun m => h (List.mem_cons_of_mem _ m), Bool.or_false]
    exact decide_eq_false fun e => h (by injection e with e; injection e with e; rw [← e]; exact List.mem_cons_self)
theorem put_es {kvs : List (Str × Str)} {k o : Str} (h : k ∉ kvs.map (·.1)) : putD (kvs.map fun p => ((.str p.1, .str p.2) : D × D)) (.inr k) (.str o) = (kvs ++ [(k, o)]).map fun p => ((.str p.1, .str p.2) : D × D) := by
  unfold putD
  rw [any_es h, if_neg Bool.false_ne_true, List.map_append]
  rfl
theorem zip_fst : ∀ {ks os : List Str}, ∀ p ∈ ks.zip os, p.1 ∈ ks
  | _, _, p, h => (List.of_mem_zip h).1
/-- a dict filled pair by pair -/
theorem dzM_es : ∀ {ks os : List Str} {acc : List (Str × Str)}, ks.Nodup → (∀ k ∈ ks, k ∉ acc.map (·.1)) → dzM (acc.map fun p => ((.str p.1, .str p.2) : D × D)) ((ks.map fun k => (.inr k : Key)).zip (os.map PyData.str)) = (acc ++ ks.zip os).map fun p => ((.str p.1, .str p.2) : D × D)
  | [], _, acc, _, _ => by
    show _ = (acc ++ []).map _
    rw [List.append_nil]
    rfl
  | _ :: _, [], acc, _, _ => by
    show _ = (acc ++ []).map _
    rw [List.append_nil]
    rfl
  | k :: ks, o :: os, acc, nd, h => by
    obtain ⟨n1, n2⟩ := List.nodup_cons.mp nd
    refine Eq.trans (b := dzM ((acc ++ [(k, o)]).map fun p => ((.str p.1, .str p.2) : D × D)) ((ks.map fun k => (.inr k : Key)).zip (os.map PyData.str))) ?_ ((dzM_es n2 fun z hz m => ?_).trans (by rw [List.append_assoc]; rfl))
    · rw [← put_es (h k List.mem_cons_self)]
      rfl
    rw [List.map_append] at m
    rcases List.mem_append.mp m with m | m
    · exact h z (List.mem_cons_of_mem _ hz) m
    · rw [List.mem_singleton.mp m] at hz
      exact n1 hz
theorem keys_es : ∀ {ks : List Str}, keysD (ks.map PyData.str) = some (ks.map fun k => (.inr k : Key))
  | [] => rfl
  | k :: ks => by
    show (keyOf (.str k)).bind (fun a => (keysD (ks.map PyData.str)).map (a :: ·)) = _
    rw [keys_es]
    rfl
theorem dz_es {ks os : List Str} (nd : ks.Nodup) : dzD [.tuple (ks.map .str), .tuple (os.map .str)] = some (.dict (esD ks os)) := by
  show (keysD (ks.map PyData.str)).map _ = _
  rw [keys_es]
  exact congrArg (fun e => some (PyData.dict e)) (dzM_es (acc := []) nd fun _ _ m => nomatch m)
theorem dg_es {ks os : List Str} {z : Str} (h : z ∈ ks) (l : ks.length = os.length) : dgD (.dict (esD ks os)) (.str z) = some (.str (rS ks os z)) := by
  obtain ⟨o, _, e⟩ := rnm_mem (os := os) h l
  show lookD (.inr z) (esD ks os) = _
  rw [look_es, e]
  unfold rS
  rw [e]
  rfl
def rnSr (f : Str → Str) (s : Sr) : Sr := ⟨f s.k, s.a, s.p, s.s, s.m⟩
def rnPt (f : Str → Str) (q : Pt) : Pt := ⟨f q.k, q.l, q.g⟩
def rnWy (f : Str → Str) (y : Wy) : Wy := ⟨f y.k, y.ps.map (rnPt f), y.kp, y.hs, y.w⟩
def rnX (X : Wd) (os : List Str) : Wd := ⟨X.n, os, X.ss.map (rnSr (rS X.ks os)), X.ws.map (rnWy (rS X.ks os))⟩
theorem rS_in {ks os : List Str} {z : Str} (h : z ∈ ks) (l : ks.length = os.length) : rS ks os z ∈ os := by
  obtain ⟨o, ho, e⟩ := rnm_mem (os := os) h l
  unfold rS
  rw [e]
  exact ho
theorem rn_ok {X : Wd} {os : List Str} (h : X.ok) (l : X.ks.length = os.length) (g : ∀ z ∈ os, NmG z) (o20 : ∀ z ∈ os, PyData.strOk z = true ∧ z.length ≤ 20) (r : os.Pairwise fun a b => a.cps.toList < b.cps.toList) : (rnX X os).ok where
  n1 := h.n1
  n6 := h.n6
  k1 := by show 1 ≤ os.length; rw [← l]; exact h.k1
  k4 := by show os.length ≤ 4; rw [← l]; exact h.k4
  ks := o20
  kg := g
  kr := r
  sl := by show (X.ss.map _).length ≤ 6; rw [List.length_map]; exact h.sl
  ss := fun s hs => by
    obtain ⟨x, hx, rfl⟩ := List.mem_map.mp hs
    have o := h.ss x hx
    exact ⟨rS_in o.k l, o.a0, o.a1, o.p0, o.p1, o.s0, o.s1, o.m0, o.m1⟩
  wl := by show (X.ws.map _).length ≤ 8; rw [List.length_map]; exact h.wl
  ws := fun y hy => by
    obtain ⟨x, hx, rfl⟩ := List.mem_map.mp hy
    have o := h.ws x hx
    refine ⟨rS_in o.k l, fun p hp => ?_, by show 1 ≤ (x.ps.map _).length; rw [List.length_map]; exact o.p1, by show (x.ps.map _).length ≤ 3; rw [List.length_map]; exact o.p3, o.kp, o.hs, o.hl, o.asc, o.w0, o.w1⟩
    obtain ⟨q, hq, rfl⟩ := List.mem_map.mp hp
    have p := o.ps q hq
    exact ⟨rS_in p.k l, p.l0, p.lg, p.g1⟩
/-! the lines with other names -/
def lnsW (X : Wd) : List (List (List Nat)) := [cs "round", nL X.n] :: (cs "kinds" :: X.ks.map fun z => z.cps.toList) :: (X.ss.map srcW ++ X.ws.map wyW)
theorem lns_W (X : Wd) : lns X = (lnsW X).map ln := by
  unfold lns lnsW
  rw [List.map_cons, List.map_cons, List.map_append, List.map_map, List.map_map]
  rfl
def gW (f : Str → Str) (w : List Nat) : List Nat := (f (T w)).cps.toList
theorem let97 : ∀ c ∈ LET, 97 ≤ c := by decide +kernel
theorem non_let {ks : List Str} (hk : ∀ z ∈ ks, NmG z) {w : List Nat} (h : ∀ c ∈ w, c < 97) : T w ∉ ks := fun m => by
  obtain ⟨h1, _, h3⟩ := hk _ m
  rw [T_len] at h1
  cases w with
  | nil => exact absurd h1 (by decide)
  | cons c w =>
    have a := h c List.mem_cons_self
    have b := let97 c (h3 c List.mem_cons_self)
    omega
theorem gW_fix {ks os : List Str} {w : List Nat} (h : T w ∉ ks) : gW (rS ks os) w = w := by
  unfold gW rS
  rw [rnm_no h]
  rfl
theorem gW_cs {ks os : List Str} {x : String} (h : Str.ofString x ∉ ks) : gW (rS ks os) (cs x) = cs x := gW_fix (w := cs x) (by rw [show T (cs x) = Str.ofString x from T_e _]; exact h)
theorem gW_nm {ks os : List Str} {z : Str} : gW (rS ks os) z.cps.toList = (rS ks os z).cps.toList := by
  unfold gW
  rw [T_e]
theorem nL_97 {i : Int} : ∀ c ∈ nL i, c < 97 := fun c hc => by
  have := nL_dig hc
  omega
theorem hr_97 {hs : List Int} : ∀ c ∈ hrW hs, c < 97 := by
  unfold hrW
  split
  · decide
  · exact jl_all (by decide) fun p hp => by
      obtain ⟨i, _, rfl⟩ := List.mem_map.mp hp
      exact nL_97
structure Fre (X : Wd) : Prop where
  r : Str.ofString "round" ∉ X.ks
  k : Str.ofString "kinds" ∉ X.ks
  s : Str.ofString "source" ∉ X.ks
  w : Str.ofString "way" ∉ X.ks
  o : Str.ofString "oldest" ∉ X.ks
  y : Str.ofString "youngest" ∉ X.ks
theorem lnsW_rn {X : Wd} {os : List Str} (h : X.ok) (nd : X.ks.Nodup) (l : X.ks.length = os.length) (fr : Fre X) : (lnsW X).map (List.map (gW (rS X.ks os))) = lnsW (rnX X os) := by
  have n : ∀ i, gW (rS X.ks os) (nL i) = nL i := fun i => gW_fix (non_let h.kg nL_97)
  show [cs "round", nL X.n].map (gW (rS X.ks os)) :: (cs "kinds" :: X.ks.map fun z => z.cps.toList).map (gW (rS X.ks os)) :: (X.ss.map srcW ++ X.ws.map wyW).map (List.map (gW (rS X.ks os))) = _
  rw [List.map_append, List.map_map, List.map_map]
  have e0 : [cs "round", nL X.n].map (gW (rS X.ks os)) = [cs "round", nL X.n] := by
    show [gW _ (cs "round"), gW _ (nL X.n)] = _
    rw [gW_cs fr.r, n]
  have e1 : (cs "kinds" :: X.ks.map fun z => z.cps.toList).map (gW (rS X.ks os)) = cs "kinds" :: os.map fun z => z.cps.toList := by
    rw [List.map_cons, gW_cs fr.k, List.map_map]
    congr 1
    rw [← rnm_all nd l, List.map_map]
    rw [rnm_all nd l]
    exact List.map_congr_left fun z _ => gW_nm
  have e2 : X.ss.map (List.map (gW (rS X.ks os)) ∘ srcW) = (X.ss.map (rnSr (rS X.ks os))).map srcW := by
    rw [List.map_map]
    refine List.map_congr_left fun s _ => ?_
    show [gW _ (cs "source"), gW _ s.k.cps.toList, gW _ (nL s.a), gW _ (nL s.p), gW _ (nL s.s), gW _ (nL s.m)] = _
    rw [gW_cs fr.s, gW_nm, n, n, n, n]
    rfl
  have e3 : X.ws.map (List.map (gW (rS X.ks os)) ∘ wyW) = (X.ws.map (rnWy (rS X.ks os))).map wyW := by
    rw [List.map_map]
    refine List.map_congr_left fun y hy => ?_
    have kp : gW (rS X.ks os) y.kp.cps.toList = y.kp.cps.toList := by
      rcases (h.ws y hy).kp with e | e
      · rw [e]
        exact gW_cs fr.o
      · rw [e]
        exact gW_cs fr.y
    show ([cs "way", y.k.cps.toList, y.kp.cps.toList, hrW y.hs, nL y.w] ++ y.ps.flatMap prW).map (gW (rS X.ks os)) = _
    rw [List.map_append]
    show [gW _ (cs "way"), gW _ y.k.cps.toList, gW _ y.kp.cps.toList, gW _ (hrW y.hs), gW _ (nL y.w)] ++ (y.ps.flatMap prW).map (gW (rS X.ks os)) = _
    rw [gW_cs fr.w, gW_nm, kp, gW_fix (non_let h.kg hr_97), n]
    show _ = [cs "way", (rS X.ks os y.k).cps.toList, y.kp.cps.toList, hrW y.hs, nL y.w] ++ (y.ps.map (rnPt (rS X.ks os))).flatMap prW
    congr 1
    have eq : ∀ ps : List Pt, (ps.flatMap prW).map (gW (rS X.ks os)) = (ps.map (rnPt (rS X.ks os))).flatMap prW := fun ps => by
      induction ps with
      | nil => rfl
      | cons p ps ih =>
        rw [List.flatMap_cons, List.map_append, ih, List.map_cons, List.flatMap_cons]
        congr 1
        show [gW _ p.k.cps.toList, gW _ (nL p.l), gW _ (nL p.g)] = _
        rw [gW_nm, n, n]
        rfl
    exact eq y.ps
  rw [e0, e1, e2, e3]
  rfl
def QS : List Str := [Str.ofString "q", Str.ofString "qq", Str.ofString "qqq", Str.ofString "qqqq"]
theorem qs_g : ∀ z ∈ QS, NmG z := by
  intro z hz
  simp only [QS, List.mem_cons, List.not_mem_nil, or_false] at hz
  rcases hz with rfl | rfl | rfl | rfl <;> exact ⟨by decide +kernel, by decide +kernel, by decide +kernel⟩
theorem qs_r : QS.Pairwise fun a b => a.cps.toList < b.cps.toList := by decide +kernel
end Dl
namespace Dl
open PySem PySem.Spec PyProof.Rows L2 Rt TL
def qsD (m : Nat) : D := .tuple ((QS.take m).map .str)
theorem qs_len {m : Nat} (h : m ≤ 4) : (QS.take m).length = m := by
  rw [List.length_take]
  exact Nat.min_eq_left h
theorem qs_nd {m : Nat} : (QS.take m).Nodup := (show QS.Nodup by decide +kernel).sublist (List.take_sublist ..)
theorem qs_sorted {m : Nat} (h : m ≤ 4) : sortedS (QS.take m) = true := by
  match m, h with
  | 0, _ | 1, _ | 2, _ | 3, _ | 4, _ => decide +kernel
  | m + 5, h => exact absurd h (by omega)
def SAre : Sem Nat := ⟨fun m => [qsD m, .int (m : Nat)], fun m => 1 ≤ m ∧ m ≤ 4, fun _ => .bool true, fun _ _ _ => rfl⟩
theorem es_rS {ks os ks' os' : List Str} (e : esD ks os = esD ks' os') : rS ks os = rS ks' os' := by
  funext z
  have h : (rnm ks os z).map PyData.str = (rnm ks' os' z).map .str := by rw [← look_es, e, look_es]
  unfold rS
  cases a : rnm ks os z with
  | none =>
    rw [a] at h
    cases b : rnm ks' os' z with
    | none => rfl
    | some o =>
      rw [b] at h
      cases h
  | some o =>
    rw [a] at h
    cases b : rnm ks' os' z with
    | none =>
      rw [b] at h
      cases h
    | some o' =>
      rw [b] at h
      cases h
      rfl
structure RwOk (ks os : List Str) (y : Wy) : Prop where
  l : ks.length = os.length
  k : y.k ∈ ks
  p : ∀ q ∈ y.ps, q.k ∈ ks
def SRwy : Sem (Wy × List Str × List Str) where
  enc := fun (y, ks, os) => [y.d, .dict (esD ks os)]
  ok := fun (y, ks, os) => RwOk ks os y
  out := fun (y, ks, os) => (rnWy (rS ks os) y).d
  fn := fun {x z} _ _ e => by
    obtain ⟨y, ks, os⟩ := x
    obtain ⟨y', ks', os'⟩ := z
    injection e with e1 e
    injection e with e2 e
    injection e2 with e2
    cases Wy.inj e1
    show (rnWy (rS ks os) _).d = (rnWy (rS ks' os') _).d
    rw [es_rS e2]
def SRen : Sem Wd where
  enc := fun X => [X.d, qsD X.ks.length]
  ok := fun X => X.ok
  out := fun X => (rnX X (QS.take X.ks.length)).d
  fn := fun {x z} _ _ e => by
    injection e with e1 e
    rw [Wd.inj e1]
theorem ks_nd {X : Wd} (h : X.ok) : X.ks.Nodup := h.kr.imp fun {a b} l e => by
  rw [e] at l
  exact absurd l (List.lt_irrefl _)
theorem ev_dcE {μ : Bool} {vs : List Nat} {it : Rho → Option (List D)} {p : Pat} {c : Rho → Option Bool} {fk fv : EF} {ρ : Rho} {items : List D} {res : List (D × D)} (h : it ρ = some items) (e : dcGo p c fk fv (wipeR (shutR μ ρ) vs) items [] = some res) : eDc μ vs it p c fk fv ρ = some (.dict res) := by
  unfold eDc
  rw [h]
  show (dcGo p c fk fv (wipeR (shutR μ ρ) vs) items []).map PyData.dict = _
  rw [e]
  rfl
theorem dc_es {p : Pat} {fk fv : EF} {ρ : Rho} (hb : ∀ k o : Str, ∃ ρ1, bindP p (.tuple [.str k, .str o]) ρ = some ρ1 ∧ fk ρ1 = some (.str k) ∧ fv ρ1 = some (.str o)) : ∀ {ks os : List Str} {acc : List (Str × Str)}, ks.Nodup → (∀ k ∈ ks, k ∉ acc.map (·.1)) → dcGo p oYes fk fv ρ (zpGo (ks.map .str) (os.map .str)) (acc.map fun p => ((.str p.1, .str p.2) : D × D)) = some ((acc ++ ks.zip os).map fun p => ((.str p.1, .str p.2) : D × D))
  | [], _, acc, _, _ => by
    show some _ = some ((acc ++ []).map _)
    rw [List.append_nil]
  | _ :: _, [], acc, _, _ => by
    show some _ = some ((acc ++ []).map _)
    rw [List.append_nil]
  | k :: ks, o :: os, acc, nd, h => by
    obtain ⟨n1, n2⟩ := List.nodup_cons.mp nd
    obtain ⟨ρ1, e1, e2, e3⟩ := hb k o
    show (bindP p (.tuple [.str k, .str o]) ρ).bind _ = _
    rw [e1]
    show (fk ρ1).bind (fun dk => (keyOf dk).bind fun k => (fv ρ1).bind fun d => dcGo p oYes fk fv ρ (zpGo (ks.map .str) (os.map .str)) (putD _ k d)) = _
    rw [e2]
    show (fv ρ1).bind (fun d => dcGo p oYes fk fv ρ (zpGo (ks.map .str) (os.map .str)) (putD _ (.inr k) d)) = _
    rw [e3]
    show dcGo p oYes fk fv ρ (zpGo (ks.map .str) (os.map .str)) (putD _ (.inr k) (.str o)) = _
    rw [put_es (h k List.mem_cons_self)]
    refine (dc_es hb n2 fun z hz m => ?_).trans (by rw [List.append_assoc]; rfl)
    rw [List.map_append] at m
    rcases List.mem_append.mp m with m | m
    · exact h z (List.mem_cons_of_mem _ hz) m
    · rw [List.mem_singleton.mp m] at hz
      exact n1 hz
section
variable {P : Program} {w : World} {K : PySem.W.Frag} {mg : Str → Option Value} {base : Heap}
theorem ok_areN {f : Addr} {fd : FuncData} (F : Fun K "are_names" "are_names" s_are_names f fd) (m_all : mg "all" = none) (m_len : mg "len" = none) (m_set : mg "set" = none) (C_is_row : Cl P w K mg base 1 "is_row" ["thing", "fewest", "most"] (spD 3 Dx.sRow)) (C_is_name : Cl P w K mg base 1 "is_name" ["thing"] (spD 1 Dx.sName)) : FnOk P w K mg base CX0 2 f fd ["thing", "many"] (spD 2 SAre.f) := by
  refine okFn F sc_are_names rfl fun cdv A outer s H E hr => ⟨_, (dSs_cons (dS_if (PW.pt (dW_or (dT_not (dT_val (dE_cl C_is_row (hr.mono (by omega)) (by rfl) (dA_cons (dE_var (μ := true) (pv 0)) (dA_cons (dE_var (μ := true) (pv 1)) (dA_cons (dE_var (μ := true) (pv 1)) (dA_nil (μ := true)))))))) (dW_or1 (dT_not (dT_val (dE_callB (c_all rfl) (by rfl) m_all (by decide +kernel) (dA_cons (dE_lc (K := K) (p := (.nm 2)) (pe_lc (own := [("name", 2)]) (g := gP K (.nm 2)) rfl sc_are_names.nd (dI_seq (dE_var (μ := true) (pv 0))) (blkOk_by (own := [("name", 2)]) (N := ["thing", "many", "name"]) (sc := defScope s_are_names) (by decide +kernel)) (fun _ _ _ _ _ => (pg_name (i := 2) sc_are_names.nd rfl (.inl rfl))) (fun _ _ _ _ _ => dTs_nil) (fun _ _ _ _ _ => (dE_cl C_is_name (hr.mono (by omega)) (by rfl) (dA_cons (dE_var (μ := true) (pv 2)) (dA_nil (μ := true))))))) (dA_nil (μ := true)))))))))
    (dSs_one (dS_ret (ps_ret (dE_c (μ := true) pe_bl))))
    dSs_nil)
  (dSs_one (dS_ret (ps_ret (dE_cmp (o_eq hr.units) (dE_lenSet (by rfl) m_len (by rfl) m_set (dE_var (μ := true) (pv 0))) (dE_var (μ := true) (pv 1)) (nomark _)))))), fun ds d l e => ?_⟩
  obtain ⟨m, ⟨m1, m4⟩, rfl, rfl⟩ := Sem.get e
  have lq : ((QS.take m).map PyData.str).length = m := by rw [List.length_map]; exact qs_len m4
  refine ⟨.rt (.bool true), ?_, rfl⟩
  refine (ev_skip (ev_oOrF (ev_not (b := true) (ev_oB (ev_call (ds := [qsD m, .int (m : Nat), .int (m : Nat)]) rfl rfl ?_))) (ev_not (b := true) (ev_oB ?_)))).trans ?_
  · show some (PyData.bool (Dx.isRow (m : Nat) (m : Nat) (qsD m))) = _
    unfold qsD
    rw [row_in (by rw [lq]; exact Int.le_refl _) (by rw [lq]; exact Int.le_refl _)]
  · refine (ev_all (xs := QS.take m) (t := fun z => Dx.isName (.str z)) rfl (ev_lcG (e := PyData.str) (t := fun z => .bool (Dx.isName (.str z))) (QS.take m) fun z hz => ⟨_, rfl, ev_call (ds := [.str z]) rfl rfl rfl⟩)).trans ?_
    rw [show (QS.take m).all (fun z => Dx.isName (.str z)) = true from List.all_eq_true.mpr fun z hz => nm_is (qs_g z (List.mem_of_mem_take hz))]
  · refine ev_ret (ev_e2 (a := .int (m : Nat)) (b := .int (m : Nat)) ?_ rfl ?_)
    · show setL [qsD m] = _
      show (strsD ((QS.take m).map .str)).bind _ = _
      rw [strsD.map]
      show (if (QS.take m).Nodup ∧ (QS.take m).length ≤ 60 then some (PyData.int ((QS.take m).length : Nat)) else none) = _
      rw [if_pos ⟨qs_nd, by rw [qs_len m4]; omega⟩, qs_len m4]
    · show some (PyData.bool (((m : Nat) : Int) == ((m : Nat) : Int))) = _
      rw [beq_self_eq_true]
theorem ok_rwy {f : Addr} {fd : FuncData} (F : Fun K "renamed_way" "renamed_way" s_renamed_way f fd) (m_tuple : mg "tuple" = none) : FnOk P w K mg base CX0 1 f fd ["way", "new"] (spD 2 SRwy.f) := by
  refine okFn F sc_renamed_way rfl fun cdv A outer s H E hr => ⟨_, (dSs_cons (dS_asg (K := K) (p := (.tp (.cons (.nm 2) (.cons (.nm 3) (.cons (.nm 4) (.cons (.nm 5) (.cons (.nm 6) .nil))))))) (ps_asg (dE_var (μ := true) (pv 0)) (pg_tup (by rfl) (pgs_cons (pg_name (i := 2) sc_renamed_way.nd rfl (.inl rfl)) (pgs_cons (pg_name (i := 3) sc_renamed_way.nd rfl (.inl rfl)) (pgs_cons (pg_name (i := 4) sc_renamed_way.nd rfl (.inl rfl)) (pgs_cons (pg_name (i := 5) sc_renamed_way.nd rfl (.inl rfl)) (pgs_cons (pg_name (i := 6) sc_renamed_way.nd rfl (.inl rfl)) pgs_nil))))))))
  (dSs_cons (dS_asg (K := K) (p := .nm 7) (ps_set (i := 7) sc_renamed_way.nd rfl (.inl rfl) (dE_callTy c_tuple (by rfl) m_tuple (by decide +kernel) (dA_cons (dE_lc (K := K) (p := (.tp (.cons (.nm 8) (.cons (.nm 9) (.cons (.nm 10) .nil))))) (pe_lc (own := [("part", 8), ("least", 9), ("greatest", 10)]) (g := gP K (.tp (.cons (.nm 8) (.cons (.nm 9) (.cons (.nm 10) .nil))))) rfl sc_renamed_way.nd (dI_seq (dE_var (μ := true) (pv 3))) (blkOk_by (own := [("part", 8), ("least", 9), ("greatest", 10)]) (N := ["way", "new", "kind", "parts", "keeps", "hours", "wait", "new_parts", "part", "least", "greatest"]) (sc := defScope s_renamed_way) (by decide +kernel)) (fun _ _ _ _ _ => (pg_tup (by rfl) (pgs_cons (pg_name (i := 8) sc_renamed_way.nd rfl (.inl rfl)) (pgs_cons (pg_name (i := 9) sc_renamed_way.nd rfl (.inl rfl)) (pgs_cons (pg_name (i := 10) sc_renamed_way.nd rfl (.inl rfl)) pgs_nil))))) (fun _ _ _ _ _ => dTs_nil) (fun _ _ _ _ _ => (dE_tup (dA_cons (dE_dget (u1 hr) (dE_var (μ := true) (pv 1)) (dE_var (μ := true) (pv 8))) (dA_cons (dE_var (μ := true) (pv 9)) (dA_cons (dE_var (μ := true) (pv 10)) (dA_nil (μ := true))))))))) (dA_nil (μ := true))))))
  (dSs_one (dS_ret (ps_ret (dE_tup (dA_cons (dE_dget (u1 hr) (dE_var (μ := true) (pv 1)) (dE_var (μ := true) (pv 2))) (dA_cons (dE_var (μ := true) (pv 7)) (dA_cons (dE_var (μ := true) (pv 4)) (dA_cons (dE_var (μ := true) (pv 5)) (dA_cons (dE_var (μ := true) (pv 6)) (dA_nil (μ := true))))))))))))), fun ds d l e => ?_⟩
  obtain ⟨⟨y, ks, os⟩, hy, rfl, rfl⟩ := Sem.get e
  have hy : RwOk ks os y := hy
  let ES : D := .dict (esD ks os)
  let R : Option LV → Rho := fun u => [some (.dat y.d), some (.dat ES), some (.dat (.str y.k)), some (.dat (.tuple (y.ps.map Pt.d))), some (.dat (.str y.kp)), some (.dat (.tuple (y.hs.map .int))), some (.dat (.int y.w)), u, none, none, none]
  let NP : D := .tuple ((y.ps.map (rnPt (rS ks os))).map Pt.d)
  refine ⟨.rt (rnWy (rS ks os) y).d, ?_, rfl⟩
  refine (ev_asg (d := y.d) (ρ' := R none) rfl rfl).trans ?_
  refine (ev_asg (d := NP) (ρ' := R (some (.dat NP))) (ev_call1 (ds := [.list ((y.ps.map (rnPt (rS ks os))).map Pt.d)]) (ev_cons (ev_lcE (items := y.ps.map Pt.d) rfl ?_) rfl) rfl) rfl).trans ?_
  · rw [List.map_map]
    exact ev_lcG (e := Pt.d) (t := Pt.d ∘ rnPt (rS ks os)) y.ps fun q hq => ⟨_, rfl, ev_tupX (ev_cons (ev_e2 (a := ES) (b := .str q.k) rfl rfl (dg_es (hy.p q hq) hy.l)) (ev_cons rfl (ev_cons rfl rfl))) (by show 3 ≤ 1000; decide)⟩
  · exact ev_ret (ev_tupX (ev_cons (ev_e2 (a := ES) (b := .str y.k) rfl rfl (dg_es hy.k hy.l)) (ev_cons rfl (ev_cons rfl (ev_cons rfl (ev_cons rfl rfl))))) (by show 5 ≤ 1000; decide))
theorem ok_ren {f : Addr} {fd : FuncData} (F : Fun K "renamed" "renamed" s_renamed f fd) (m_tuple : mg "tuple" = none) (m_len : mg "len" = none) (m_zip : mg "zip" = none) (m_sorted : mg "sorted" = none) (C_are_names : Cl P w K mg base 2 "are_names" ["thing", "many"] (spD 2 SAre.f)) (C_renamed_way : Cl P w K mg base 1 "renamed_way" ["way", "new"] (spD 2 SRwy.f)) : FnOk P w K mg base CX0 3 f fd ["world", "names"] (spD 2 SRen.f) := by
  refine okFn F sc_renamed rfl fun cdv A outer s H E hr => ⟨_, (dSs_cons (dS_asg (K := K) (p := (.tp (.cons (.nm 2) (.cons (.nm 3) (.cons (.nm 4) (.cons (.nm 5) .nil)))))) (ps_asg (dE_var (μ := true) (pv 0)) (pg_tup (by rfl) (pgs_cons (pg_name (i := 2) sc_renamed.nd rfl (.inl rfl)) (pgs_cons (pg_name (i := 3) sc_renamed.nd rfl (.inl rfl)) (pgs_cons (pg_name (i := 4) sc_renamed.nd rfl (.inl rfl)) (pgs_cons (pg_name (i := 5) sc_renamed.nd rfl (.inl rfl)) pgs_nil)))))))
  (dSs_cons (dS_if (dT_not (dT_val (dE_cl C_are_names (hr.mono (by omega)) (by rfl) (dA_cons (dE_var (μ := true) (pv 1)) (dA_cons (dE_callB c_len (by rfl) m_len (by decide +kernel) (dA_cons (dE_var (μ := true) (pv 3)) (dA_nil (μ := true)))) (dA_nil (μ := true)))))))
    (dSs_one dS_no)
    dSs_nil)
  (dSs_cons (dS_asg (K := K) (p := .nm 6) (ps_set (i := 6) sc_renamed.nd rfl (.inr rfl) (dE_dc (K := K) (p := (.tp (.cons (.nm 9) (.cons (.nm 10) .nil)))) (pe_dc (own := [("kind", 9), ("name", 10)]) (g := gP K (.tp (.cons (.nm 9) (.cons (.nm 10) .nil)))) rfl sc_renamed.nd (dI_zip (by rfl) m_zip (dA_cons (dE_var (μ := true) (pv 3)) (dA_cons (dE_var (μ := true) (pv 1)) (dA_nil (μ := true))))) (blkOk_by (own := [("kind", 9), ("name", 10)]) (N := ["world", "names", "span", "kinds", "sources", "ways", "new", "new_sources", "new_ways", "kind", "name", "source", "way"]) (sc := defScope s_renamed) (by decide +kernel)) (fun _ _ _ _ _ => (pg_tup (by rfl) (pgs_cons (pg_name (i := 9) sc_renamed.nd rfl (.inl rfl)) (pgs_cons (pg_name (i := 10) sc_renamed.nd rfl (.inl rfl)) pgs_nil)))) (fun _ _ _ _ _ => dTs_nil) (fun _ _ _ _ _ => (dE_var (μ := true) (pv 9))) (fun _ _ _ _ _ => (dE_var (μ := true) (pv 10)))))))
  (dSs_cons (dS_asg (K := K) (p := .nm 7) (ps_set (i := 7) sc_renamed.nd rfl (.inl rfl) (dE_callTy c_tuple (by rfl) m_tuple (by decide +kernel) (dA_cons (dE_lc (K := K) (p := (.nm 11)) (pe_lc (own := [("source", 11)]) (g := gP K (.nm 11)) rfl sc_renamed.nd (dI_seq (dE_var (μ := true) (pv 4))) (blkOk_by (own := [("source", 11)]) (N := ["world", "names", "span", "kinds", "sources", "ways", "new", "new_sources", "new_ways", "kind", "name", "source", "way"]) (sc := defScope s_renamed) (by decide +kernel)) (fun _ _ _ _ _ => (pg_name (i := 11) sc_renamed.nd rfl (.inl rfl))) (fun _ _ _ _ _ => dTs_nil) (fun _ _ _ _ _ => (dE_op o_add (dE_tup (dA_cons (dE_dget (u1 hr) (dE_var (μ := true) (pv 6)) (dE_ix (dE_var (μ := true) (pv 11)) (dE_c (μ := true) pe_int))) (dA_nil (μ := true)))) (dE_sl (dE_var (μ := true) (pv 11)) (dO_some (dE_c (μ := true) pe_int)) dO_none))))) (dA_nil (μ := true))))))
  (dSs_cons (dS_asg (K := K) (p := .nm 8) (ps_set (i := 8) sc_renamed.nd rfl (.inl rfl) (dE_callTy c_tuple (by rfl) m_tuple (by decide +kernel) (dA_cons (dE_lc (K := K) (p := (.nm 12)) (pe_lc (own := [("way", 12)]) (g := gP K (.nm 12)) rfl sc_renamed.nd (dI_seq (dE_var (μ := true) (pv 5))) (blkOk_by (own := [("way", 12)]) (N := ["world", "names", "span", "kinds", "sources", "ways", "new", "new_sources", "new_ways", "kind", "name", "source", "way"]) (sc := defScope s_renamed) (by decide +kernel)) (fun _ _ _ _ _ => (pg_name (i := 12) sc_renamed.nd rfl (.inl rfl))) (fun _ _ _ _ _ => dTs_nil) (fun _ _ _ _ _ => (dE_cl C_renamed_way (hr.mono (by omega)) (by rfl) (dA_cons (dE_var (μ := true) (pv 12)) (dA_cons (dE_var (μ := true) (pv 6)) (dA_nil (μ := true)))))))) (dA_nil (μ := true))))))
  (dSs_one (dS_ret (ps_ret (dE_tup (dA_cons (dE_var (μ := true) (pv 2)) (dA_cons (dE_callTy c_tuple (by rfl) m_tuple (by decide +kernel) (dA_cons (dE_callB c_sorT (by rfl) m_sorted (by decide +kernel) (dA_cons (dE_var (μ := true) (pv 1)) (dA_nil (μ := true)))) (dA_nil (μ := true)))) (dA_cons (dE_var (μ := true) (pv 7)) (dA_cons (dE_var (μ := true) (pv 8)) (dA_nil (μ := true))))))))))))))), fun ds d l e => ?_⟩
  obtain ⟨X, hX, rfl, rfl⟩ := Sem.get e
  have hX : X.ok := hX
  let m := X.ks.length
  let os := QS.take m
  have k1 : 1 ≤ m := hX.k1
  have k4 : m ≤ 4 := hX.k4
  have lo : X.ks.length = os.length := (qs_len k4).symm
  let ES : D := .dict (esD X.ks os)
  let R : Option LV → Option LV → Option LV → Rho := fun a b c => [some (.dat X.d), some (.dat (qsD m)), some (.dat (.int X.n)), some (.dat (.tuple (X.ks.map .str))), some (.dat (.tuple (X.ss.map Sr.d))), some (.dat (.tuple (X.ws.map Wy.d))), a, b, c, none, none, none, none]
  let NS : D := .tuple ((X.ss.map (rnSr (rS X.ks os))).map Sr.d)
  let NW : D := .tuple ((X.ws.map (rnWy (rS X.ks os))).map Wy.d)
  refine ⟨.rt (rnX X os).d, ?_, rfl⟩
  refine (ev_asg (d := X.d) (ρ' := R none none none) rfl rfl).trans ?_
  refine (ev_skip (ev_not (b := true) (ev_oB (ev_call (ds := [qsD m, .int (m : Nat)]) (ev_cons rfl (ev_cons (ev_call1 (ds := [.tuple (X.ks.map .str)]) rfl ?_) rfl)) rfl (Sem.of (S := SAre) (x := m) ⟨k1, k4⟩))))).trans ?_
  · show some (PyData.int ((X.ks.map PyData.str).length : Nat)) = _
    rw [List.length_map]
  refine (ev_asg (d := ES) (ρ' := R (some (.dat ES)) none none) (ev_dcE (items := zpGo (X.ks.map .str) (os.map .str)) rfl (dc_es (fun k o => ⟨_, rfl, rfl, rfl⟩) (acc := []) (ks_nd hX) fun _ _ m => nomatch m)) rfl).trans ?_
  refine (ev_asg (d := NS) (ρ' := R (some (.dat ES)) (some (.dat NS)) none) (ev_call1 (ds := [.list ((X.ss.map (rnSr (rS X.ks os))).map Sr.d)]) (ev_cons (ev_lcE (items := X.ss.map Sr.d) rfl ?_) rfl) rfl) rfl).trans ?_
  · rw [List.map_map]
    exact ev_lcG (e := Sr.d) (t := Sr.d ∘ rnSr (rS X.ks os)) X.ss fun x hx => ⟨_, rfl, ev_e2 (a := .tuple [.str (rS X.ks os x.k)]) (b := .tuple [.int x.a, .int x.p, .int x.s, .int x.m]) (ev_tupX (ev_cons (ev_e2 (a := ES) (b := .str x.k) rfl rfl (dg_es (hX.ss x hx).k lo)) rfl) (by show 1 ≤ 1000; decide)) rfl rfl⟩
  refine (ev_asg (d := NW) (ρ' := R (some (.dat ES)) (some (.dat NS)) (some (.dat NW))) (ev_call1 (ds := [.list ((X.ws.map (rnWy (rS X.ks os))).map Wy.d)]) (ev_cons (ev_lcE (items := X.ws.map Wy.d) rfl ?_) rfl) rfl) rfl).trans ?_
  · rw [List.map_map]
    exact ev_lcG (e := Wy.d) (t := Wy.d ∘ rnWy (rS X.ks os)) X.ws fun y hy => ⟨_, rfl, ev_call (ds := [y.d, ES]) rfl rfl (Sem.of (S := SRwy) (x := (y, X.ks, os)) ⟨lo, (hX.ws y hy).k, fun q hq => ((hX.ws y hy).ps q hq).k⟩)⟩
  · exact ev_ret (ev_tupX (ev_cons rfl (ev_cons (ev_call1 (ds := [.list (os.map .str)]) (ev_cons (ev_call1 (ds := [qsD m]) rfl (sorTD_ok (by rw [qs_len k4]; omega) (List.Perm.refl _) (qs_sorted k4))) rfl) rfl) (ev_cons rfl (ev_cons rfl rfl)))) (by show 4 ≤ 1000; decide))
end
end Dl
namespace Dl
open PySem PySem.Spec PyProof.Rows L2 Rt TL
theorem ev_itS9 {f : EF} {ρ : Rho} {d : D} {items : List D} (h : f ρ = some d) (hs : seqD d = some items) : itSeq f ρ = some items := by
  unfold itSeq
  rw [h]
  exact hs
theorem lnsW_b {X : Wd} (h : WdB X) : ∀ ws ∈ lnsW X, ws ≠ [] ∧ (∀ p ∈ ws, 32 ∉ p) ∧ (∀ p ∈ ws, p.length ≤ 48) ∧ ws.length ≤ 14 := fun ws hw => by
  have k4 := h.k4
  unfold lnsW at hw
  rcases List.mem_cons.mp hw with rfl | hw
  · refine ⟨List.cons_ne_nil _ _, rnd_free (.inl rfl), fun p hp => ?_, by show 2 ≤ 14; decide⟩
    have e : (cs "round").length ≤ 48 := by decide +kernel
    have := nL_len h.n.2
    simp only [List.mem_cons, List.not_mem_nil, or_false] at hp
    rcases hp with rfl | rfl <;> omega
  · rcases List.mem_cons.mp hw with rfl | hw
    · refine ⟨List.cons_ne_nil _ _, knd_free h.ks (.inl rfl), fun p hp => ?_, by rw [List.length_cons, List.length_map]; omega⟩
      rcases List.mem_cons.mp hp with rfl | hp
      · decide +kernel
      · obtain ⟨z, hz, rfl⟩ := List.mem_map.mp hp
        have := nm_len (h.ks z hz)
        omega
    · rcases List.mem_append.mp hw with hw | hw
      · obtain ⟨s, hs, rfl⟩ := List.mem_map.mp hw
        exact ⟨List.cons_ne_nil _ _, src_free (h.ss s hs) (.inl rfl), src_len (h.ss s hs), by show 6 ≤ 14; decide⟩
      · obtain ⟨y, hy, rfl⟩ := List.mem_map.mp hw
        have := wy_len (h.ws y hy)
        exact ⟨by unfold wyW; exact List.cons_ne_nil _ _, wy_free (h.ws y hy) (.inl rfl), this.1, this.2⟩
def wRd (es : List (D × D)) (w : List Nat) : List Nat := match lookD (.inr (T w)) es with
  | some (.str o) => o.cps.toList
  | _ => w
def lnRd (es : List (D × D)) : D → D
  | .str z => .str (T (joinL [32] ((spl [32] 0 [] z.cps.toList).map (wRd es))))
  | d => d
theorem wRd_g {ks os : List Str} {w : List Nat} : wRd (esD ks os) w = gW (rS ks os) w := by
  unfold wRd gW rS
  rw [look_es]
  cases rnm ks os (T w) <;> rfl
def osX (X : Wd) : List Str := QS.take X.ks.length
theorem lnRd_ln {ks os : List Str} {ws : List (List Nat)} (ne : ws ≠ []) (fr : ∀ p ∈ ws, 32 ∉ p) : lnRd (esD ks os) (.str (ln ws)) = .str (ln (ws.map (gW (rS ks os)))) := by
  show PyData.str (T (joinL [32] ((spl [32] 0 [] (joinL [32] ws)).map (wRd (esD ks os))))) = _
  rw [spl_join ne fr, show wRd (esD ks os) = gW (rS ks os) from funext fun w => wRd_g]
  rfl
theorem lns_str (X : Wd) : (lns X).map PyData.str = (lnsW X).map fun ws => .str (ln ws) := by
  rw [lns_W, List.map_map]
  rfl
theorem lns_rn {X : Wd} (h : X.ok) (fr : Fre X) : (lns (rnX X (osX X))).map PyData.str = (lnsW X).map fun ws => .str (ln (ws.map (gW (rS X.ks (osX X))))) := by
  rw [lns_str, ← lnsW_rn (os := osX X) h (ks_nd h) (qs_len h.k4).symm fr, List.map_map]
  rfl
def SNmd : Sem Wd := Sem.mk' (fun X => [.list ((lns X).map .str), .dict (esD X.ks (osX X))]) (fun X => X.ok ∧ Fre X) (fun X => .list ((lns (rnX X (osX X))).map .str)) (fun ds => match ds with | [.list ls, .dict es] => .list (ls.map (lnRd es)) | _ => .none) fun X h => by
  show PyData.list (((lns X).map PyData.str).map (lnRd (esD X.ks (osX X)))) = _
  rw [lns_str, lns_rn h.1 h.2, List.map_map]
  exact congrArg PyData.list (List.map_congr_left fun ws hw => lnRd_ln (lnsW_b (wd_b h.1) ws hw).1 (lnsW_b (wd_b h.1) ws hw).2.1)
theorem rS_len {X : Wd} (h : X.ok) {z : Str} (hz : z.length ≤ 48) : (rS X.ks (osX X) z).length ≤ 48 := by
  by_cases m : z ∈ X.ks
  · have := rS_in (os := osX X) m (qs_len h.k4).symm
    have := (qs_g _ (List.mem_of_mem_take this)).2.1
    omega
  · unfold rS
    rw [rnm_no m]
    exact hz
theorem dg2_es {X : Wd} (h : X.ok) (z : Str) : dg2D (.dict (esD X.ks (osX X))) (.str z) (.str z) = some (.str (rS X.ks (osX X) z)) := by
  have ne : ((esD X.ks (osX X)).any fun e => (keyOf e.1).isSome) = true := by
    have k1 := h.k1
    have k4 := h.k4
    have lo : (osX X).length = X.ks.length := qs_len k4
    unfold esD
    cases hk : X.ks with
    | nil => rw [hk] at k1; exact absurd k1 (by decide)
    | cons k ks =>
      cases ho : osX X with
      | nil => rw [ho, hk] at lo; cases lo
      | cons o os => rfl
  show (if ((esD X.ks (osX X)).any fun e => (keyOf e.1).isSome) = true then some ((lookD (.inr z) (esD X.ks (osX X))).getD (.str z)) else none) = _
  rw [if_pos ne, look_es]
  unfold rS
  cases rnm X.ks (osX X) z <;> rfl
theorem ev_spT {X : Wd} {ρ : Rho} {f g : EF} (hB : WdB X) (hf : f ρ = some (.str (txt X))) (hg : g ρ = some (.str (Str.ofString "\n"))) : e2 splitD f g ρ = some (.list ((lns X).map .str)) := by
  have ll := lns_len hB
  refine (ev_split (s := 10) (ws := (lns X).map fun z => z.cps.toList) c_nl (by decide) hf hg (by unfold lns; simp) (fun p hp => ?_) 700 (fun p hp => ?_) (by rw [List.length_map]; have := ll.2; omega)).trans (by rw [List.map_map]; rfl)
  · obtain ⟨z, hz, rfl⟩ := List.mem_map.mp hp
    exact (lns_ok hB z hz).2
  · obtain ⟨z, hz, rfl⟩ := List.mem_map.mp hp
    rw [← s_len]
    exact ll.1 z hz
theorem ev_jnT {X : Wd} {ρ : Rho} {f g : EF} (hB : WdB X) (hf : f ρ = some (.str (Str.ofString "\n"))) (hg : g ρ = some (.list ((lns X).map .str))) : e2 joinD f g ρ = some (.str (txt X)) := by
  have l := lns_len hB
  have e1 : txt X = T (joinL (Str.ofString "\n").cps.toList ((lns X).map fun z => z.cps.toList)) := by rw [c_nl]; rfl
  rw [e1]
  refine ev_join hf (.inl hg) 700 l.1 ?_
  show (lns X).length * (700 + 1) ≤ _
  omega
theorem lns_s {X : Wd} {c : Nat} {s : Sr} (h : X.ss[c]? = some s) : (lns X)[2 + c]? = some (ln (srcW s)) := by
  rw [show 2 + c = c + 1 + 1 by omega]
  show (X.ss.map (fun s => ln (srcW s)) ++ X.ws.map fun y => ln (wyW y))[c]? = _
  rw [List.getElem?_append_left (by rw [List.length_map]; exact (List.getElem?_eq_some_iff.mp h).1), List.getElem?_map, h]
  rfl
theorem lns_w {X : Wd} {c : Nat} {y : Wy} (h : X.ws[c]? = some y) : (lns X)[2 + X.ss.length + c]? = some (ln (wyW y)) := by
  rw [show 2 + X.ss.length + c = X.ss.length + c + 1 + 1 by omega]
  show (X.ss.map (fun s => ln (srcW s)) ++ X.ws.map fun y => ln (wyW y))[X.ss.length + c]? = _
  rw [List.getElem?_append_right (by rw [List.length_map]; omega), List.length_map, Nat.add_sub_cancel_left, List.getElem?_map, h]
  rfl
theorem mul9 {n : Nat} {j : Int} (h : n ≤ 100) : mulX (.int (n : Nat)) (.int j) = some (.int ((n : Int) * j)) := by
  have h1 : -(2 ^ 64) < (n : Int) ∧ (n : Int) < 2 ^ 64 := ⟨by omega, by omega⟩
  show mulD (.int (n : Nat)) (.int j) = _
  unfold mulD
  exact if_pos (Or.inl h1)
def gExc : GF := gAny 2 (fun ds => ∃ xs : List D, ds = [.tuple xs] ∧ 1 ≤ xs.length ∧ xs.length ≤ 8) (fun ds d => ∃ (xs : List D) (a b : Nat) (x y : D), ds = [.tuple xs] ∧ xs[b]? = some x ∧ xs[a]? = some y ∧ d = .list [.tuple ((xs.set a x).set b y), .int (a : Nat), .int (b : Nat)])
def gSwp : GF := gAny 2 (fun ds => ∃ (X : Wd) (p : Int), ds = [X.d, .int p] ∧ (p = 2 ∨ p = 3) ∧ X.ok) (fun _ d => d = .bool true)
section
variable {P : Program} {w : World} {K : PySem.W.Frag} {mg : Str → Option Value} {base : Heap}
theorem ok_nmd {f : Addr} {fd : FuncData} (F : Fun K "_law_named" "_law_named" s_law_named f fd) : FnOk P w K mg base CX0 1 f fd ["_law_lines", "_law_names_here"] (spD 2 SNmd.f) := by
  refine okFn F sc_law_named rfl fun cdv A outer s H E hr => ⟨_, (dSs_one (dS_ret (ps_ret (dE_lc (K := K) (p := (.nm 2)) (pe_lc (own := [("_law_line", 2)]) (g := gP K (.nm 2)) rfl sc_law_named.nd (dI_seq (dE_var (μ := true) (pv 0))) (blkOk_by (own := [("_law_line", 2)]) (N := ["_law_lines", "_law_names_here", "_law_line", "_law_word"]) (sc := defScope s_law_named) (by decide +kernel)) (fun _ _ _ _ _ => (pg_name (i := 2) sc_law_named.nd rfl (.inl rfl))) (fun _ _ _ _ _ => dTs_nil) (fun _ _ _ _ _ => (dE_join (dE_c (μ := true) pe_str) (dE_lc (K := K) (p := (.nm 3)) (pe_lc (own := [("_law_word", 3)]) (g := gP K (.nm 3)) rfl sc_law_named.nd (dI_seq (dE_split (dE_var (μ := true) (pv 2)) (dE_c (μ := true) pe_str))) (by exact blkOk_by (own := [("_law_word", 3)]) (by rfl)) (fun _ _ _ _ _ => (pg_name (i := 3) sc_law_named.nd rfl (.inl rfl))) (fun _ _ _ _ _ => dTs_nil) (fun _ _ _ _ _ => (dE_get2 (u1 hr) (dE_var (μ := true) (pv 1)) (dE_var (μ := true) (pv 3)) (dE_var (μ := true) (pv 3))))))))))))), fun ds d l e => ?_⟩
  obtain ⟨X, ⟨hX, fr⟩, rfl, rfl⟩ := Sem.get e
  refine ⟨.rt (.list ((lns (rnX X (osX X))).map .str)), ?_, rfl⟩
  rw [lns_rn hX fr]
  refine ev_ret (ev_lcE (items := (lnsW X).map fun ws => .str (ln ws)) (ev_itS9 (d := .list ((lnsW X).map fun ws => .str (ln ws))) (by rw [← lns_str]; rfl) rfl) (ev_lcG (e := fun ws => .str (ln ws)) (t := fun ws => .str (ln (ws.map (gW (rS X.ks (osX X)))))) (lnsW X) fun ws hw => ⟨_, rfl, ?_⟩))
  obtain ⟨b1, b2, b3, b4⟩ := lnsW_b (wd_b hX) ws hw
  have e1 : ln (ws.map (gW (rS X.ks (osX X)))) = T (joinL (Str.ofString " ").cps.toList ((ws.map fun w => rS X.ks (osX X) (T w)).map fun z => z.cps.toList)) := by
    rw [c_sp, List.map_map]
    rfl
  rw [e1]
  refine ev_join rfl (.inl (ev_lcE (items := ws.map fun p => .str (T p)) (ev_itS9 (d := .list (ws.map fun p => .str (T p))) (ev_split (s := 32) (ws := ws) c_sp (by decide) rfl rfl b1 b2 48 b3 (by omega)) rfl) ?_)) 48 (fun z hz => ?_) ?_
  · rw [List.map_map]
    exact ev_lcG (e := fun p => PyData.str (T p)) (t := PyData.str ∘ fun w => rS X.ks (osX X) (T w)) ws fun w _ => ⟨_, rfl, dg2_es hX (T w)⟩
  · obtain ⟨w, hw2, rfl⟩ := List.mem_map.mp hz
    exact rS_len hX (by rw [T_len]; exact b3 w hw2)
  · rw [List.length_map]
    show ws.length * (48 + 1) ≤ 1000000
    omega
theorem ok_exc {f : Addr} {fd : FuncData} (F : Fun K "_law_exchanged" "_law_exchanged" s_law_exchanged f fd) (m_len : mg "len" = none) (m_list : mg "list" = none) (m_tuple : mg "tuple" = none) (C__law_next : Cl P w K mg base 1 "_law_next" ["_law_drawn", "_law_many"] (spN 1 gNext)) : FnOk P w K mg base CX0 2 f fd ["_law_drawn", "_law_some"] (spN 1 gExc) := by
  refine okFnN F sc_law_exchanged rfl fun cdv A outer s H E hr => ⟨_, (nSs_cons (nS_par (ps_par (i := 2) (j := 3) (by rfl) sc_law_exchanged.nd rfl rfl (by decide) rfl rfl (nA_cons (nE_draw C__law_next (hr.mono (by omega)) (by rfl) (pv 0) (nA_cons (nE_pure (dE_callB c_len (by rfl) m_len (by decide +kernel) (dA_cons (dE_var (μ := true) (pv 1)) (dA_nil (μ := true))))) nA_nil)) (nA_cons (nE_draw C__law_next (hr.mono (by omega)) (by rfl) (pv 0) (nA_cons (nE_pure (dE_callB c_len (by rfl) m_len (by decide +kernel) (dA_cons (dE_var (μ := true) (pv 1)) (dA_nil (μ := true))))) nA_nil)) nA_nil)) (by rfl)))
  (nSs_cons (nS_own (ps_set (i := 4) sc_law_exchanged.nd rfl (.inl rfl) (nN_pure (oE_listC (by rfl) m_list (by decide +kernel) (dE_var (μ := true) (pv 1))))))
  (nSs_cons (nS_put2 (i := 4) (ps_asg (pe_tupF (nA_cons (nE_pure (dE_ix (dE_var (μ := true) (pv 1)) (dE_var (μ := true) (pv 3)))) (nA_cons (nE_pure (dE_ix (dE_var (μ := true) (pv 1)) (dE_var (μ := true) (pv 2)))) nA_nil))) (pg_tup (by rfl) (pgs_cons (pg_sub (pv 4) (dE_var (μ := true) (pv 2)) set_listL) (pgs_cons (pg_sub (pv 4) (dE_var (μ := true) (pv 3)) set_listL) pgs_nil)))))
  (nSs_one (nS_frz (i := 4) (nS_retL (ps_ret (dE_lst (dA_cons (dE_callTy c_tuple (by rfl) m_tuple (by decide +kernel) (dA_cons (dE_var (μ := true) (pv 4)) (dA_nil (μ := true)))) (dA_cons (dE_var (μ := true) (pv 2)) (dA_cons (dE_var (μ := true) (pv 3)) (dA_nil (μ := true))))))))))))), fun ds b Q l h => ?_⟩
  obtain ⟨⟨xs, rfl, l1, l8⟩, hb, q⟩ := h
  refine wNext (m := xs.length) rfl rfl (by omega) (by omega) (by omega) fun v1 b1 v10 v11 h1 => wNext (m := xs.length) rfl rfl (by omega) (by omega) (by omega) fun v2 b2 v20 v21 h2 => ?_
  obtain ⟨a, rfl⟩ := Int.eq_ofNat_of_zero_le v10
  obtain ⟨c, rfl⟩ := Int.eq_ofNat_of_zero_le v20
  obtain ⟨y, hy⟩ : ∃ y, xs[a]? = some y := ⟨_, List.getElem?_eq_getElem (by omega)⟩
  obtain ⟨x, hx⟩ : ∃ x, xs[c]? = some x := ⟨_, List.getElem?_eq_getElem (by omega)⟩
  refine ⟨_, rfl, _, rfl, .int (a : Nat), .int (c : Nat), rfl, ?_⟩
  refine ⟨.list xs, rfl, xs, rfl, by show 4 < 5; decide, ?_⟩
  refine ⟨x, ev_e2 (a := .tuple xs) (b := .int (c : Nat)) rfl rfl (L2.atI_nat hx), y, ev_e2 (a := .tuple xs) (b := .int (a : Nat)) rfl rfl (L2.atI_nat hy), _, rfl, _, rfl, x, y, xs, (a : Nat), a, (c : Nat), c, rfl, rfl, rfl, ixN_of (by omega), rfl, ixN_of (by omega), ?_⟩
  exact ⟨(xs.set a x).set c y, rfl, .list [.tuple ((xs.set a x).set c y), .int (a : Nat), .int (c : Nat)], rfl, q _ b2 ⟨xs, a, c, x, y, rfl, hx, hy, rfl⟩ (by omega)⟩
theorem ok_swp {f : Addr} {fd : FuncData} (F : Fun K "_law_swapped" "_law_swapped" s_law_swapped f fd) (m_len : mg "len" = none) (m_int : mg "int" = none) (C__law_exchanged : Cl P w K mg base 2 "_law_exchanged" ["_law_drawn", "_law_some"] (spN 1 gExc)) (C_world_text : Cl P w K mg base 3 "world_text" ["world"] (spD 1 STxt.f)) (C_read_world : Cl P w K mg base 8 "read_world" ["text"] (spD 1 SRdw.f)) (C__law_alike : Cl P w K mg base 6 "_law_alike" ["_law_one", "_law_other"] (spD 2 (sAl (dpA 6)))) : FnOk P w K mg base CX0 9 f fd ["_law_drawn", "_law_world_here", "_law_part_here"] (spN 2 gSwp) := by
  refine okFnN F sc_law_swapped rfl fun cdv A outer s H E hr => ⟨_, (nSs_cons (nS_if (nT_pure (dT_cmp (o_eqX hr.units) (dE_ix (dE_var (μ := true) (pv 1)) (dE_var (μ := true) (pv 2))) (dE_tup (dA_nil (μ := true))) (nomark _)))
    (nSs_one (nS_retL (ps_ret (dE_c (μ := true) pe_bl))))
    nSs_nil)
  (nSs_cons (nS_asgL (K := K) (ps := (.cons (.nm 3) (.cons (.nm 4) (.cons (.nm 5) .nil)))) (ps_asg (nE_draw C__law_exchanged (hr.mono (by omega)) (by rfl) (pv 0) (nA_cons (nE_pure (dE_ix (dE_var (μ := true) (pv 1)) (dE_var (μ := true) (pv 2)))) nA_nil)) (pg_lst (by rfl) (pgs_cons (pg_name (i := 3) sc_law_swapped.nd rfl (.inl rfl)) (pgs_cons (pg_name (i := 4) sc_law_swapped.nd rfl (.inl rfl)) (pgs_cons (pg_name (i := 5) sc_law_swapped.nd rfl (.inl rfl)) pgs_nil))))))
  (nSs_cons (nS_own (ps_set (i := 6) sc_law_swapped.nd rfl (.inl rfl) (nN_pure (oE_split (dE_cl C_world_text (hr.mono (by omega)) (by rfl) (dA_cons (dE_var (μ := true) (pv 1)) (dA_nil (μ := true)))) (dE_c (μ := true) pe_str)))))
  (nSs_cons (nS_asg (K := K) (p := .nm 7) (ps_set (i := 7) sc_law_swapped.nd rfl (.inl rfl) (nE_pure (dE_op o_add (dE_c (μ := true) pe_int) (dE_op o_mulX (dE_callB c_len (by rfl) m_len (by decide +kernel) (dA_cons (dE_ix (dE_var (μ := true) (pv 1)) (dE_c (μ := true) pe_int)) (dA_nil (μ := true)))) (dE_callTy c_int (by rfl) m_int (by decide +kernel) (dA_cons (dE_cmp (o_eqX hr.units) (dE_var (μ := true) (pv 2)) (dE_c (μ := true) pe_int) (nomark _)) (dA_nil (μ := true)))))))))
  (nSs_cons (nS_par (ps_par (i := 4) (j := 5) (by rfl) sc_law_swapped.nd rfl rfl (by decide) rfl rfl (nA_cons (nE_pure (dE_op o_add (dE_var (μ := true) (pv 7)) (dE_var (μ := true) (pv 4)))) (nA_cons (nE_pure (dE_op o_add (dE_var (μ := true) (pv 7)) (dE_var (μ := true) (pv 5)))) nA_nil)) (by rfl)))
  (nSs_cons (nS_swp (i := 6) (ps_asg (pe_tupF (pa_cons (pe_ix ix_list (pv 6) (dE_var (μ := true) (pv 5)) (fun _ _ => rfl)) (pa_cons (pe_ix ix_list (pv 6) (dE_var (μ := true) (pv 4)) (fun _ _ => rfl)) pa_nil))) (pg_tup (by rfl) (pgs_cons (pg_sub (pv 6) (dE_var (μ := true) (pv 4)) set_listL) (pgs_cons (pg_sub (pv 6) (dE_var (μ := true) (pv 5)) set_listL) pgs_nil)))))
  (nSs_one (nS_frz (i := 6) (nS_retL (ps_ret (dE_cl C__law_alike (hr.mono (by omega)) (by rfl) (dA_cons (dE_cl C_read_world (hr.mono (by omega)) (by rfl) (dA_cons (dE_join (dE_c (μ := true) pe_str) (dE_var (μ := true) (pv 6))) (dA_nil (μ := true)))) (dA_cons (dE_op o_add (dE_op o_add (dE_sl (dE_var (μ := true) (pv 1)) dO_none (dO_some (dE_var (μ := true) (pv 2)))) (dE_tup (dA_cons (dE_var (μ := true) (pv 3)) (dA_nil (μ := true))))) (dE_sl (dE_var (μ := true) (pv 1)) (dO_some (dE_op o_add (dE_var (μ := true) (pv 2)) (dE_c (μ := true) pe_int))) dO_none)) (dA_nil (μ := true))))))))))))))), fun ds b Q l h => ?_⟩
  obtain ⟨⟨X, p, rfl, hp, hX⟩, hb, q⟩ := h
  have hB := wd_b hX
  have hT : STxt.f [X.d] = some (.str (txt X)) := Sem.of (S := STxt) (x := X) hB
  let R : Option LV → Option LV → Option LV → Option LV → Option LV → Rho := fun a c d e g => [some .pool, some (.dat X.d), some (.dat (.int p)), a, c, d, e, g]
  have wv_len : ∀ ρ : Rho, eVar 1 ρ = some X.d → eCall lenD (aCons (e2 ixD (eVar 1) (eC (PyData.int 2))) aNil) ρ = some (.int (X.ss.length : Nat)) := fun ρ h => ev_call1 (ds := [.tuple (X.ss.map Sr.d)]) (ev_cons (ev_e2 (a := X.d) (b := .int 2) h rfl rfl) rfl) (by show some (PyData.int ((X.ss.map Sr.d).length : Nat)) = _; rw [List.length_map])
  rcases hp with rfl | rfl
  · have l1 : (X.ss.map Sr.d).length = X.ss.length := List.length_map ..
    have l8 : X.ss.length ≤ 8 := by have := hX.sl; omega
    by_cases he : X.ss = []
    · refine ⟨true, ev_oB (ev_e2 (a := .tuple (X.ss.map Sr.d)) (b := .tuple []) rfl rfl (by rw [he]; rfl)), ?_⟩
      exact ⟨.bool true, rfl, q _ b rfl (by omega)⟩
    have l0 : 0 < X.ss.length := List.length_pos_iff.mpr he
    refine ⟨false, ev_oB (ev_e2 (a := .tuple (X.ss.map Sr.d)) (b := .tuple []) rfl rfl ?_), ?_⟩
    · show some (PyData.bool (X.ss.map Sr.d).isEmpty) = _
      cases hq : X.ss with
      | nil => exact (he hq).elim
      | cons _ _ => rfl
    refine ⟨rfl, .tuple (X.ss.map Sr.d), rfl, _, rfl, rfl, ⟨X.ss.map Sr.d, rfl, by omega, by omega⟩, by omega, fun d b1 ⟨xs, a, c, x, y, e, hx, hy, ed⟩ h1 => ?_⟩
    injection e with e _
    injection e with e
    subst e
    subst ed
    rw [List.getElem?_map] at hx hy
    obtain ⟨sx, hsx, rfl⟩ := Option.map_eq_some_iff.mp hx
    obtain ⟨sy, hsy, rfl⟩ := Option.map_eq_some_iff.mp hy
    have ha : a < X.ss.length := (List.getElem?_eq_some_iff.mp hsy).1
    have hc : c < X.ss.length := (List.getElem?_eq_some_iff.mp hsx).1
    let RW : D := .tuple (((X.ss.map Sr.d).set a sx.d).set c sy.d)
    let LN : D := .list ((lns X).map .str)
    refine ⟨_, R (some (.dat RW)) (some (.dat (.int (a : Nat)))) (some (.dat (.int (c : Nat)))) none none, rfl, rfl, ?_⟩
    refine ⟨LN, ev_spT hB (ev_call (ds := [X.d]) rfl rfl hT) rfl, (lns X).map .str, rfl, by show 6 < 8; decide, ?_⟩
    refine ⟨.int (2 + (X.ss.length : Int) * 0), ev_e2 (a := .int 2) (b := .int ((X.ss.length : Int) * 0)) rfl (ev_e2 (a := .int (X.ss.length : Nat)) (b := .int 0) (wv_len _ rfl) (ev_call1 (ds := [.bool false]) (ev_cons (ev_e2 (a := .int 2) (b := .int 3) rfl rfl (show some (PyData.bool (PyData.eqv (.int 2) (.int 3))) = _ from rfl)) rfl) rfl) (mul9 (by have := hX.sl; omega))) rfl, _, rfl, ?_⟩
    refine ⟨.int ((2 + a : Nat) : Int), ev_e2 (a := .int (2 + (X.ss.length : Int) * 0)) (b := .int (a : Nat)) rfl rfl (by show some (PyData.int ((2 + (X.ss.length : Int) * 0) + ((a : Nat) : Int))) = some (PyData.int ((2 + a : Nat) : Int)); rw [show (2 + (X.ss.length : Int) * 0) + ((a : Nat) : Int) = ((2 + a : Nat) : Int) by omega]), .int ((2 + c : Nat) : Int), ev_e2 (a := .int (2 + (X.ss.length : Int) * 0)) (b := .int (c : Nat)) rfl rfl (by show some (PyData.int ((2 + (X.ss.length : Int) * 0) + ((c : Nat) : Int))) = some (PyData.int ((2 + c : Nat) : Int)); rw [show (2 + (X.ss.length : Int) * 0) + ((c : Nat) : Int) = ((2 + c : Nat) : Int) by omega]), _, rfl, _, rfl, .int ((2 + a : Nat) : Int), .int ((2 + c : Nat) : Int), rfl, ?_⟩
    refine ⟨(lns X).map .str, 2 + a, 2 + c, .str (ln (srcW sx)), .str (ln (srcW sy)), rfl, ?_, ?_, rfl, rfl, rfl, ?_⟩
    · rw [List.getElem?_map, lns_s hsx]
      rfl
    · rw [List.getElem?_map, lns_s hsy]
      rfl
    have ok' : (exS X a c sx sy).ok := exS_ok hX (List.mem_of_getElem? hsx) (List.mem_of_getElem? hsy)
    have eL : (((lns X).map PyData.str).set (2 + a) (.str (ln (srcW sx)))).set (2 + c) (.str (ln (srcW sy))) = (lns (exS X a c sx sy)).map .str := by
      rw [exS_lns ha hc, List.map_set, List.map_set]
    have eR : RW = .tuple ((exS X a c sx sy).ss.map Sr.d) := by
      show PyData.tuple (((X.ss.map Sr.d).set a sx.d).set c sy.d) = .tuple (((X.ss.set a sx).set c sy).map Sr.d)
      rw [List.map_set, List.map_set]
    refine ⟨_, rfl, .bool true, ?_, q _ b1 rfl (by omega)⟩
    refine ev_call (ds := [(exS X a c sx sy).d, (exS X a c sx sy).d]) (ev_cons (ev_call (ds := [.str (txt (exS X a c sx sy))]) (ev_cons (ev_jnT (wd_b ok') rfl (congrArg (fun l => some (PyData.list l)) eL)) rfl) rfl (Sem.of (S := SRdw) (x := exS X a c sx sy) ok')) (ev_cons ?_ rfl)) rfl (sAl_ok (dp_wd ok'))
    refine ev_e2 (a := .tuple [.int X.n, .tuple (X.ks.map .str), RW]) (b := .tuple [.tuple (X.ws.map Wy.d)]) (ev_e2 (a := .tuple [.int X.n, .tuple (X.ks.map .str)]) (b := .tuple [RW]) rfl rfl rfl) rfl ?_
    rw [eR]
    rfl
  · have l1 : (X.ws.map Wy.d).length = X.ws.length := List.length_map ..
    have l8 : X.ws.length ≤ 8 := hX.wl
    by_cases he : X.ws = []
    · refine ⟨true, ev_oB (ev_e2 (a := .tuple (X.ws.map Wy.d)) (b := .tuple []) rfl rfl (by rw [he]; rfl)), ?_⟩
      exact ⟨.bool true, rfl, q _ b rfl (by omega)⟩
    have l0 : 0 < X.ws.length := List.length_pos_iff.mpr he
    refine ⟨false, ev_oB (ev_e2 (a := .tuple (X.ws.map Wy.d)) (b := .tuple []) rfl rfl ?_), ?_⟩
    · show some (PyData.bool (X.ws.map Wy.d).isEmpty) = _
      cases hq : X.ws with
      | nil => exact (he hq).elim
      | cons _ _ => rfl
    refine ⟨rfl, .tuple (X.ws.map Wy.d), rfl, _, rfl, rfl, ⟨X.ws.map Wy.d, rfl, by omega, by omega⟩, by omega, fun d b1 ⟨xs, a, c, x, y, e, hx, hy, ed⟩ h1 => ?_⟩
    injection e with e _
    injection e with e
    subst e
    subst ed
    rw [List.getElem?_map] at hx hy
    obtain ⟨sx, hsx, rfl⟩ := Option.map_eq_some_iff.mp hx
    obtain ⟨sy, hsy, rfl⟩ := Option.map_eq_some_iff.mp hy
    have ha : a < X.ws.length := (List.getElem?_eq_some_iff.mp hsy).1
    have hc : c < X.ws.length := (List.getElem?_eq_some_iff.mp hsx).1
    let RW : D := .tuple (((X.ws.map Wy.d).set a sx.d).set c sy.d)
    let LN : D := .list ((lns X).map .str)
    refine ⟨_, R (some (.dat RW)) (some (.dat (.int (a : Nat)))) (some (.dat (.int (c : Nat)))) none none, rfl, rfl, ?_⟩
    refine ⟨LN, ev_spT hB (ev_call (ds := [X.d]) rfl rfl hT) rfl, (lns X).map .str, rfl, by show 6 < 8; decide, ?_⟩
    refine ⟨.int (2 + (X.ss.length : Int) * 1), ev_e2 (a := .int 2) (b := .int ((X.ss.length : Int) * 1)) rfl (ev_e2 (a := .int (X.ss.length : Nat)) (b := .int 1) (wv_len _ rfl) (ev_call1 (ds := [.bool true]) (ev_cons (ev_e2 (a := .int 3) (b := .int 3) rfl rfl (show some (PyData.bool (PyData.eqv (.int 3) (.int 3))) = _ from rfl)) rfl) rfl) (mul9 (by have := hX.sl; omega))) rfl, _, rfl, ?_⟩
    refine ⟨.int ((2 + X.ss.length + a : Nat) : Int), ev_e2 (a := .int (2 + (X.ss.length : Int) * 1)) (b := .int (a : Nat)) rfl rfl (by show some (PyData.int ((2 + (X.ss.length : Int) * 1) + ((a : Nat) : Int))) = some (PyData.int ((2 + X.ss.length + a : Nat) : Int)); rw [show (2 + (X.ss.length : Int) * 1) + ((a : Nat) : Int) = ((2 + X.ss.length + a : Nat) : Int) by omega]), .int ((2 + X.ss.length + c : Nat) : Int), ev_e2 (a := .int (2 + (X.ss.length : Int) * 1)) (b := .int (c : Nat)) rfl rfl (by show some (PyData.int ((2 + (X.ss.length : Int) * 1) + ((c : Nat) : Int))) = some (PyData.int ((2 + X.ss.length + c : Nat) : Int)); rw [show (2 + (X.ss.length : Int) * 1) + ((c : Nat) : Int) = ((2 + X.ss.length + c : Nat) : Int) by omega]), _, rfl, _, rfl, .int ((2 + X.ss.length + a : Nat) : Int), .int ((2 + X.ss.length + c : Nat) : Int), rfl, ?_⟩
    refine ⟨(lns X).map .str, 2 + X.ss.length + a, 2 + X.ss.length + c, .str (ln (wyW sx)), .str (ln (wyW sy)), rfl, ?_, ?_, rfl, rfl, rfl, ?_⟩
    · rw [List.getElem?_map, lns_w hsx]
      rfl
    · rw [List.getElem?_map, lns_w hsy]
      rfl
    have ok' : (exW X a c sx sy).ok := exW_ok hX (List.mem_of_getElem? hsx) (List.mem_of_getElem? hsy)
    have eL : (((lns X).map PyData.str).set (2 + X.ss.length + a) (.str (ln (wyW sx)))).set (2 + X.ss.length + c) (.str (ln (wyW sy))) = (lns (exW X a c sx sy)).map .str := by
      rw [exW_lns, List.map_set, List.map_set]
    have eR : RW = .tuple ((exW X a c sx sy).ws.map Wy.d) := by
      show PyData.tuple (((X.ws.map Wy.d).set a sx.d).set c sy.d) = .tuple (((X.ws.set a sx).set c sy).map Wy.d)
      rw [List.map_set, List.map_set]
    refine ⟨_, rfl, .bool true, ?_, q _ b1 rfl (by omega)⟩
    refine ev_call (ds := [(exW X a c sx sy).d, (exW X a c sx sy).d]) (ev_cons (ev_call (ds := [.str (txt (exW X a c sx sy))]) (ev_cons (ev_jnT (wd_b ok') rfl (congrArg (fun l => some (PyData.list l)) eL)) rfl) rfl (Sem.of (S := SRdw) (x := exW X a c sx sy) ok')) (ev_cons ?_ rfl)) rfl (sAl_ok (dp_wd ok'))
    refine ev_e2 (a := .tuple [.int X.n, .tuple (X.ks.map .str), .tuple (X.ss.map Sr.d), RW]) (b := .tuple []) (ev_e2 (a := .tuple [.int X.n, .tuple (X.ks.map .str), .tuple (X.ss.map Sr.d)]) (b := .tuple [RW]) rfl rfl rfl) rfl ?_
    rw [eR]
    rfl
end
end Dl
namespace Dl
open PySem PySem.Spec PyProof.Rows L2 Rt TL
def lawR (a b c d e f g h i j k l m n : Option LV) : Rho := [none, some .pool, a, b, c, d, e, f, g, h, i, j, k, l, m, n]
theorem wIfNo9 {c : Rho → Option Bool} {f : WP Out} {ρ : Rho} {b : Nat} {Q : Out → Nat → Prop} (hc : c (shutR true ρ) = some false) (h : Q (.nx ρ) b) : (swIf (wP c) f swNil).w ρ b Q := ⟨false, hc, iteB (fun h => nomatch h) fun _ => h⟩
theorem cut_toY {α : Type} {xs : List α} {m : Nat} : cutD xs none (some (m : Int)) = xs.take m := by
  unfold cutD
  rw [HT.sIx_none, HT.sIx_nat, List.drop_zero, Nat.sub_zero]
  exact List.take_eq_take_min.symm
theorem ev_slT {f : EF} {hi : Rho → Option (Option Int)} {ρ : Rho} {xs : List D} {m : Nat} (h1 : f ρ = some (.tuple xs)) (h3 : hi ρ = some (some ((m : Nat) : Int))) : eSl f pNone hi ρ = some (.tuple (xs.take m)) := by
  refine ev_sl (d := .tuple xs) (l := none) (h := some ((m : Nat) : Int)) h1 rfl h3 ?_
  show some (PyData.tuple (cutD xs none (some ((m : Nat) : Int)))) = _
  rw [cut_toY]
theorem ev_slL {f : EF} {hi : Rho → Option (Option Int)} {ρ : Rho} {xs : List D} {m : Nat} (h1 : f ρ = some (.list xs)) (h3 : hi ρ = some (some ((m : Nat) : Int))) : eSl f pNone hi ρ = some (.list (xs.take m)) := by
  refine ev_sl (d := .list xs) (l := none) (h := some ((m : Nat) : Int)) h1 rfl h3 ?_
  show some (PyData.list (cutD xs none (some ((m : Nat) : Int)))) = _
  rw [cut_toY]
theorem ev_pS {f : EF} {ρ : Rho} {i : Int} (h : f ρ = some (.int i)) : pSome f ρ = some (some i) := by
  unfold pSome
  rw [h]
  rfl
theorem ne_int (i : Int) : neZ (.int i) (.int i) = some (.bool false) := by
  show some (PyData.bool (!PyData.eqv (.int i) (.int i))) = _
  have : PyData.eqv (.int i) (.int i) = true := by simp [PyData.eqv]
  rw [this]
  rfl
theorem lcN_F9 {p : Pat} {c : WP Bool} {f : WP D} {ρ : Rho} {α : Type} {e t : α → D} {k : α → Bool} : ∀ (xs : List α) (b : Nat) (Q : List D → Nat → Prop), (∀ x ∈ xs, ∃ ρ1, bindP p (e x) ρ = some ρ1 ∧ (∀ b Q, Q (k x) b → c.w ρ1 b Q) ∧ ∀ b Q, Q (t x) b → f.w ρ1 b Q) → Q ((xs.filter k).map t) b → lcN p c f ρ (xs.map e) b Q
  | [], b, Q, _, q => q
  | x :: xs, b, Q, h, q => by
    obtain ⟨ρ1, e1, h1, h2⟩ := h x (by simp)
    refine ⟨ρ1, e1, h1 b _ ?_⟩
    cases hk : k x with
    | true =>
      rw [if_pos rfl]
      refine h2 b _ ?_
      rw [List.filter_cons_of_pos hk] at q
      exact lcN_F9 xs b _ (fun y hy => h y (by simp [hy])) q
    | false =>
      rw [if_neg Bool.false_ne_true]
      rw [List.filter_cons_of_neg (by rw [hk]; decide)] at q
      exact lcN_F9 xs b _ (fun y hy => h y (by simp [hy])) q
def res9 : List Str := [Str.ofString "round", Str.ofString "kinds", Str.ofString "source", Str.ofString "way", Str.ofString "oldest", Str.ofString "youngest"]
theorem res9_ok : okD (.tuple (res9.map .str)) = true := by decide +kernel
def inSix (z : Str) : Bool := (res9.map PyData.str).any fun x => PyData.eqv x (.str z)
theorem inSix_mem {z : Str} (h : z ∈ res9) : inSix z = true := List.any_eq_true.mpr ⟨.str z, List.mem_map.mpr ⟨z, h, rfl⟩, by rw [eqv_str]; exact decide_eq_true rfl⟩
theorem fre_of {X : Wd} (h : X.ks.filter inSix = []) : Fre X := by
  have n : ∀ z ∈ res9, z ∉ X.ks := fun z hz m => by
    have : z ∈ X.ks.filter inSix := List.mem_filter.mpr ⟨m, inSix_mem hz⟩
    rw [h] at this
    cases this
  exact ⟨n _ (by simp [res9]), n _ (by simp [res9]), n _ (by simp [res9]), n _ (by simp [res9]), n _ (by simp [res9]), n _ (by simp [res9])⟩
theorem q_rep {i : Nat} (h : i < 4) : QS[i]? = some (repS (Str.ofString "q") (i + 1)) := by
  match i, h with
  | 0, _ | 1, _ | 2, _ | 3, _ => rfl
  | i + 4, h => exact absurd h (by omega)
theorem q_rng {m : Nat} (h : m ≤ 4) : (List.range m).map (fun i => PyData.str (repS (Str.ofString "q") (i + 1))) = (QS.take m).map .str := by
  refine List.ext_getElem? fun i => ?_
  rw [List.getElem?_map, List.getElem?_map]
  by_cases hi : i < m
  · rw [List.getElem?_range hi, List.getElem?_take_of_lt hi, q_rep (by omega)]
    rfl
  · rw [List.getElem?_eq_none (by rw [List.length_range]; omega), List.getElem?_eq_none (by rw [List.length_take]; omega)]
    rfl
theorem q_mul {i : Nat} (h : i < 4) : mulX (.str (Str.ofString "q")) (.int ((0 : Int) + (i : Nat) + 1)) = some (.str (repS (Str.ofString "q") (i + 1))) := by
  have e : (0 : Int) + (i : Nat) + 1 = ((i + 1 : Nat) : Int) := by omega
  rw [e]
  have c : 1 ≤ ((i + 1 : Nat) : Int) ∧ ((i + 1 : Nat) : Int) ≤ 100 ∧ 0 < (Str.ofString "q").length ∧ (Str.ofString "q").length ≤ 100 := ⟨by omega, by omega, by decide +kernel, by decide +kernel⟩
  exact (if_pos c).trans (by rw [Int.toNat_natCast])
section
variable {P : Program} {w : World} {K : PySem.W.Frag} {mg : Str → Option Value} {base : Heap}
theorem ok_law {f : Addr} {fd : FuncData} (F : Fun K "law" "law" s_law f fd) (m_range : mg "range" = none) (m_tuple : mg "tuple" = none) (m_len : mg "len" = none) (m_max : mg "max" = none) (m_dict : mg "dict" = none) (m_zip : mg "zip" = none)
    (C__law_draws : Cl P w K mg base 1 "_law_draws" ["_law_script", "_law_may"] (spDraws K)) (C__law_world : Cl P w K mg base 4 "_law_world" ["_law_drawn", "_law_late"] (spN 1 gWorld)) (C_world_text : Cl P w K mg base 3 "world_text" ["world"] (spD 1 STxt.f)) (C_read_world : Cl P w K mg base 8 "read_world" ["text"] (spD 1 SRdw.f)) (C__law_alike : Cl P w K mg base 6 "_law_alike" ["_law_one", "_law_other"] (spD 2 (sAl (dpA 6)))) (C__law_swapped : Cl P w K mg base 9 "_law_swapped" ["_law_drawn", "_law_world_here", "_law_part_here"] (spN 2 gSwp)) (C__law_named : Cl P w K mg base 1 "_law_named" ["_law_lines", "_law_names_here"] (spD 2 SNmd.f)) (C_renamed : Cl P w K mg base 3 "renamed" ["world", "names"] (spD 2 SRen.f)) : FnOk P w K mg base CX0 10 f fd ["_law_script"] (spLaw K) := by
  refine F.ok sc_law (fun vs H Q E h => ?_) (fun cdv A outer s H vs Q E hr h => ?_)
  · obtain ⟨a, ns, rfl, _⟩ := h
    rfl
  · obtain ⟨a, ns, rfl, hS, hn, q⟩ := h
    refine ⟨_, pss_cons (ps_set (i := 1) sc_law.nd rfl (.inl rfl) (pe_cl C__law_draws (hr.mono (by omega)) (by rfl) (pa_cons (pv 0) (pa_cons pe_int pa_nil))))
      (nSs_cons (nS_asg (K := K) (p := .nm 2) (ps_set (i := 2) sc_law.nd rfl (.inl rfl) (nE_draw C__law_world (hr.mono (by omega)) (by rfl) (pv 1) (nA_cons (nE_pure (dE_c (μ := true) pe_int)) nA_nil))))
  (nSs_cons (nS_asg (K := K) (p := (.tp (.cons (.nm 3) (.cons (.nm 4) (.cons (.nm 5) (.cons (.nm 6) .nil)))))) (ps_asg (nE_pure (dE_var (μ := true) (pv 2))) (pg_tup (by rfl) (pgs_cons (pg_name (i := 3) sc_law.nd rfl (.inl rfl)) (pgs_cons (pg_name (i := 4) sc_law.nd rfl (.inl rfl)) (pgs_cons (pg_name (i := 5) sc_law.nd rfl (.inl rfl)) (pgs_cons (pg_name (i := 6) sc_law.nd rfl (.inl rfl)) pgs_nil)))))))
  (nSs_cons (nS_asg (K := K) (p := .nm 7) (ps_set (i := 7) sc_law.nd rfl (.inl rfl) (nE_pure (dE_split (dE_cl C_world_text (hr.mono (by omega)) (by rfl) (dA_cons (dE_var (μ := true) (pv 2)) (dA_nil (μ := true)))) (dE_c (μ := true) pe_str)))))
  (nSs_cons (nS_if (nT_pure (dT_cmp (o_neZ hr.units) (dE_callB c_len (by rfl) m_len (by decide +kernel) (dA_cons (dE_var (μ := true) (pv 7)) (dA_nil (μ := true)))) (dE_op o_add (dE_op o_add (dE_c (μ := true) pe_int) (dE_callB c_len (by rfl) m_len (by decide +kernel) (dA_cons (dE_var (μ := true) (pv 5)) (dA_nil (μ := true))))) (dE_callB c_len (by rfl) m_len (by decide +kernel) (dA_cons (dE_var (μ := true) (pv 6)) (dA_nil (μ := true))))) (nomark _)))
    (nSs_one (nS_retL (ps_ret (dE_c (μ := true) pe_bl))))
    nSs_nil)
  (nSs_cons (nS_for (K := K) (p := (.nm 8)) (ps_for PassesOwn.never rfl (nI_pure (dI_ran2 (by rfl) m_range (dA_cons (dE_c (μ := true) pe_int) (dA_cons (dE_op o_add (dE_callB c_len (by rfl) m_len (by decide +kernel) (dA_cons (dE_var (μ := true) (pv 7)) (dA_nil (μ := true)))) (dE_c (μ := true) pe_int)) (dA_nil (μ := true)))))) (pg_name (i := 8) sc_law.nd rfl (.inl rfl))
    (nSs_cons (nS_asg (K := K) (p := .nm 9) (ps_set (i := 9) sc_law.nd rfl (.inl rfl) (nE_pure (dE_tup (dA_cons (dE_var (μ := true) (pv 3)) (dA_cons (dE_var (μ := true) (pv 4)) (dA_cons (dE_sl (dE_var (μ := true) (pv 5)) dO_none (dO_some (dE_op o_sub (dE_var (μ := true) (pv 8)) (dE_c (μ := true) pe_int)))) (dA_cons (dE_sl (dE_var (μ := true) (pv 6)) dO_none (dO_some (dE_callB (c_max2 rfl) (by rfl) m_max (by decide +kernel) (dA_cons (dE_c (μ := true) pe_int) (dA_cons (dE_op o_sub (dE_op o_sub (dE_var (μ := true) (pv 8)) (dE_c (μ := true) pe_int)) (dE_callB c_len (by rfl) m_len (by decide +kernel) (dA_cons (dE_var (μ := true) (pv 5)) (dA_nil (μ := true))))) (dA_nil (μ := true))))))) (dA_nil (μ := true))))))))))
  (nSs_one (nS_if (nT_pure (dT_not (dT_val (dE_cl C__law_alike (hr.mono (by omega)) (by rfl) (dA_cons (dE_cl C_read_world (hr.mono (by omega)) (by rfl) (dA_cons (dE_join (dE_c (μ := true) pe_str) (dE_sl (dE_var (μ := true) (pv 7)) dO_none (dO_some (dE_var (μ := true) (pv 8))))) (dA_nil (μ := true)))) (dA_cons (dE_var (μ := true) (pv 9)) (dA_nil (μ := true))))))))
    (nSs_one (nS_retL (ps_ret (dE_c (μ := true) pe_bl))))
    nSs_nil)))))
  (nSs_cons (nS_if (PW.pt (nW_or (nT_not (nT_val (nE_draw C__law_swapped (hr.mono (by omega)) (by rfl) (pv 1) (nA_cons (nE_pure (dE_var (μ := true) (pv 2))) (nA_cons (nE_pure (dE_c (μ := true) pe_int)) nA_nil))))) (nW_or1 (nT_not (nT_val (nE_draw C__law_swapped (hr.mono (by omega)) (by rfl) (pv 1) (nA_cons (nE_pure (dE_var (μ := true) (pv 2))) (nA_cons (nE_pure (dE_c (μ := true) pe_int)) nA_nil))))))))
    (nSs_one (nS_retL (ps_ret (dE_c (μ := true) pe_bl))))
    nSs_nil)
  (nSs_cons (nS_asg (K := K) (p := .nm 10) (ps_set (i := 10) sc_law.nd rfl (.inl rfl) (nE_pure (dE_callTy c_tuple (by rfl) m_tuple (by decide +kernel) (dA_cons (dE_lc (K := K) (p := (.nm 15)) (pe_lc (own := [("_law_k", 15)]) (g := gP K (.nm 15)) rfl sc_law.nd (dI_ran1 (by rfl) m_range (dA_cons (dE_callB c_len (by rfl) m_len (by decide +kernel) (dA_cons (dE_var (μ := true) (pv 4)) (dA_nil (μ := true)))) (dA_nil (μ := true)))) (blkOk_by (own := [("_law_k", 15)]) (N := ["_law_script", "_law_drawn", "_law_world_here", "_law_size", "_law_kinds", "_law_sources", "_law_ways", "_law_lines", "_law_many", "_law_due", "_law_others", "_law_names_here", "_law_spare", "_law_found", "_law_name", "_law_k"]) (sc := defScope s_law) (by decide +kernel)) (fun _ _ _ _ _ => (pg_name (i := 15) sc_law.nd rfl (.inl rfl))) (fun _ _ _ _ _ => dTs_nil) (fun _ _ _ _ _ => (dE_op o_mulX (dE_c (μ := true) pe_str) (dE_op o_add (dE_var (μ := true) (pv 15)) (dE_c (μ := true) pe_int)))))) (dA_nil (μ := true)))))))
  (nSs_cons (nS_asg (K := K) (p := .nm 11) (ps_set (i := 11) sc_law.nd rfl (.inl rfl) (nE_pure (dE_dictZip (by rfl) m_dict (by rfl) m_zip (dA_cons (dE_var (μ := true) (pv 4)) (dA_cons (dE_var (μ := true) (pv 10)) (dA_nil (μ := true))))))))
  (nSs_cons (nS_lc (K := K) (p := (.nm 14)) (ps_setLc (i := 12) (own := [("_law_name", 14)]) (g := gP K (.nm 14)) rfl sc_law.nd rfl rfl (sw_true rfl rfl rfl (by decide +kernel)) (nI_pure (dI_seq (dE_var (μ := true) (pv 4)))) (blkOk_by (own := [("_law_name", 14)]) (N := ["_law_script", "_law_drawn", "_law_world_here", "_law_size", "_law_kinds", "_law_sources", "_law_ways", "_law_lines", "_law_many", "_law_due", "_law_others", "_law_names_here", "_law_spare", "_law_found", "_law_name", "_law_k"]) (sc := defScope s_law) (by decide +kernel)) (fun _ _ _ _ _ => (pg_name (i := 14) sc_law.nd rfl (.inl rfl))) (fun _ _ _ _ _ => (pts_one (nT_pure (dT_cmp (o_in (u65 hr)) (dE_var (μ := true) (pv 14)) (dE_tup (dA_cons (dE_c (μ := true) pe_str) (dA_cons (dE_c (μ := true) pe_str) (dA_cons (dE_c (μ := true) pe_str) (dA_cons (dE_c (μ := true) pe_str) (dA_cons (dE_c (μ := true) pe_str) (dA_cons (dE_c (μ := true) pe_str) (dA_nil (μ := true))))))))) (by rfl))))) (fun _ _ _ _ _ => (nE_pure (dE_var (μ := true) (pv 14))))))
  (nSs_cons (nS_if (nT_pure (dT_cmp (o_neZ hr.units) (dE_var (μ := true) (pv 12)) (dE_lst (dA_nil (μ := true))) (nomark _)))
    (nSs_one (nS_retL (ps_ret (dE_c (μ := true) pe_bl))))
    nSs_nil)
  (nSs_cons (nS_asg (K := K) (p := .nm 13) (ps_set (i := 13) sc_law.nd rfl (.inl rfl) (nE_pure (dE_cl C_read_world (hr.mono (by omega)) (by rfl) (dA_cons (dE_join (dE_c (μ := true) pe_str) (dE_cl C__law_named (hr.mono (by omega)) (by rfl) (dA_cons (dE_var (μ := true) (pv 7)) (dA_cons (dE_var (μ := true) (pv 11)) (dA_nil (μ := true)))))) (dA_nil (μ := true)))))))
  (nSs_one (nS_retL (ps_ret (dE_cl C__law_alike (hr.mono (by omega)) (by rfl) (dA_cons (dE_var (μ := true) (pv 13)) (dA_cons (dE_cl C_renamed (hr.mono (by omega)) (by rfl) (dA_cons (dE_var (μ := true) (pv 2)) (dA_cons (dE_var (μ := true) (pv 10)) (dA_nil (μ := true))))) (dA_nil (μ := true))))))))))))))))))), ?_⟩
    refine ⟨.ref a, rfl, a, ns, 0, rfl, hS, hn, fun g H1 _ F1 => ?_⟩
    refine ⟨g, g.own, H1, lawR none none none none none none none none none none none none none none, 1000000, ⟨.refl, fun p o => g.alive F1 o, fun p o => g.alive F1 o, fun p o => o, F1, rfl, fun i d e => ?_, fun i d e => ?_, fun i d e => ?_, fun i e => ?_, fun i j a b p e => ?_⟩, ?_⟩
    · match i, e with
      | 0, e | 1, e | 2, e | 3, e | 4, e | 5, e | 6, e | 7, e | 8, e | 9, e | 10, e | 11, e | 12, e | 13, e | 14, e | 15, e => cases e
      | i + 16, e => cases e
    · match i, e with
      | 0, e | 1, e | 2, e | 3, e | 4, e | 5, e | 6, e | 7, e | 8, e | 9, e | 10, e | 11, e | 12, e | 13, e | 14, e | 15, e => cases e
      | i + 16, e => cases e
    · match i, e with
      | 0, e | 1, e | 2, e | 3, e | 4, e | 5, e | 6, e | 7, e | 8, e | 9, e | 10, e | 11, e | 12, e | 13, e | 14, e | 15, e => cases e
      | i + 16, e => cases e
    · match i, e with
      | 1, e => rfl
      | 0, e | 2, e | 3, e | 4, e | 5, e | 6, e | 7, e | 8, e | 9, e | 10, e | 11, e | 12, e | 13, e | 14, e | 15, e => cases e
      | i + 16, e => cases e
    · match i, e with
      | 0, e | 1, e | 2, e | 3, e | 4, e | 5, e | 6, e | 7, e | 8, e | 9, e | 10, e | 11, e | 12, e | 13, e | 14, e | 15, e => cases e
      | i + 16, e => cases e
    refine WP.m _ (P := fun o b => o = .rt (.bool true)) (fun o b' e => ?_) ?_
    · subst e
      intro v H' _ _ r
      cases r
      exact q H'
    refine ⟨rfl, .int 40, rfl, _, rfl, rfl, ⟨40, rfl, by decide, by decide⟩, by omega, fun W b1 ⟨X, eW, hX⟩ h1 => ?_⟩
    subst eW
    have hB := wd_b hX
    have s6 := hX.sl
    have w8 := hX.wl
    have k4 := hX.k4
    have hT : STxt.f [X.d] = some (.str (txt X)) := Sem.of (S := STxt) (x := X) hB
    refine ⟨lawR (some (.dat X.d)) none none none none none none none none none none none none none, rfl, ?_⟩
    let LN : D := .list ((lns X).map .str)
    let R : Option LV → Option LV → Option LV → Option LV → Option LV → Option LV → Option LV → Option LV → Option LV → Rho := fun l m d o n s f x k => lawR (some (.dat X.d)) (some (.dat (.int X.n))) (some (.dat (.tuple (X.ks.map .str)))) (some (.dat (.tuple (X.ss.map Sr.d)))) (some (.dat (.tuple (X.ws.map Wy.d)))) l m d o n s f x k
    refine ⟨X.d, rfl, R none none none none none none none none none, rfl, ?_⟩
    refine ⟨LN, ev_spT hB (ev_call (ds := [X.d]) rfl rfl hT) rfl, R (some (.dat LN)) none none none none none none none none, rfl, ?_⟩
    have ll : (lns X).length = X.ss.length + X.ws.length + 2 := by
      unfold lns
      rw [List.length_cons, List.length_cons, List.length_append, List.length_map, List.length_map]
    have lLN : ∀ ρ : Rho, eVar 7 ρ = some LN → eCall lenD (aCons (eVar 7) aNil) ρ = some (.int ((X.ss.length + X.ws.length + 2 : Nat) : Int)) := fun ρ h => ev_call1 (ds := [LN]) (ev_cons h rfl) (by show some (PyData.int (((lns X).map PyData.str).length : Nat)) = _; rw [List.length_map, ll])
    have lSS : ∀ ρ : Rho, eVar 5 ρ = some (.tuple (X.ss.map Sr.d)) → eCall lenD (aCons (eVar 5) aNil) ρ = some (.int (X.ss.length : Nat)) := fun ρ h => ev_call1 (ds := [.tuple (X.ss.map Sr.d)]) (ev_cons h rfl) (by show some (PyData.int ((X.ss.map Sr.d).length : Nat)) = _; rw [List.length_map])
    have lWS : ∀ ρ : Rho, eVar 6 ρ = some (.tuple (X.ws.map Wy.d)) → eCall lenD (aCons (eVar 6) aNil) ρ = some (.int (X.ws.length : Nat)) := fun ρ h => ev_call1 (ds := [.tuple (X.ws.map Wy.d)]) (ev_cons h rfl) (by show some (PyData.int ((X.ws.map Wy.d).length : Nat)) = _; rw [List.length_map])
    refine wIfNo9 (ev_oB (ev_e2 (a := .int ((X.ss.length + X.ws.length + 2 : Nat) : Int)) (b := .int ((X.ss.length + X.ws.length + 2 : Nat) : Int)) (lLN _ rfl) ?_ (ne_int _))) ?_
    · refine ev_e2 (a := .int (2 + (X.ss.length : Nat))) (b := .int (X.ws.length : Nat)) (ev_e2 (a := .int 2) (b := .int (X.ss.length : Nat)) rfl (lSS _ rfl) rfl) (lWS _ rfl) ?_
      show some (PyData.int (2 + (X.ss.length : Nat) + (X.ws.length : Nat))) = _
      rw [show (2 : Int) + (X.ss.length : Nat) + (X.ws.length : Nat) = ((X.ss.length + X.ws.length + 2 : Nat) : Int) by omega]
    let N := X.ss.length + X.ws.length + 1
    have ei : itG ran2D (aCons (eC (.int 2)) (aCons (e2 addD (eCall lenD (aCons (eVar 7) aNil)) (eC (.int 1))) aNil)) (shutR true (R (some (.dat LN)) none none none none none none none none)) = some (rgD 2 N) := by
      refine ev_itG (ds := [.int 2, .int (((X.ss.length + X.ws.length + 2 : Nat) : Int) + 1)]) (ev_cons rfl (ev_cons (ev_e2 (a := .int ((X.ss.length + X.ws.length + 2 : Nat) : Int)) (b := .int 1) (lLN _ rfl) rfl rfl) rfl)) ?_
      rw [ran2_ok (by decide) (by decide) (by omega) (by omega) (by omega)]
      congr 2
      omega
    refine ⟨rgD 2 N, ei, forN_cost N 0 (fun k ρ => ∃ m d, ρ = R (some (.dat LN)) m d none none none none none none) (rgD 2 N) 0 _ b1 (by rw [rgD_len]; omega) ⟨_, _, rfl⟩ (by omega) (fun x hx k ρ b hk i hb => ?_) (fun ρ b2 i h2 => ?_)⟩
    · obtain ⟨y1, y2, rfl⟩ := i
      obtain ⟨i, hi, rfl⟩ := List.mem_map.mp hx
      have hi : i < X.ss.length + X.ws.length + 1 := List.mem_range.mp hi
      have e2i : (2 : Int) + (i : Nat) = ((i + 2 : Nat) : Int) := by omega
      rw [e2i]
      let MI : Option LV := some (.dat (.int ((i + 2 : Nat) : Int)))
      refine ⟨R (some (.dat LN)) MI y2 none none none none none none, rfl, fun Q' q' => ?_⟩
      have pk := pre_ok hX (i + 2)
      have m2 : ∀ ρ : Rho, eVar 8 ρ = some (.int ((i + 2 : Nat) : Int)) → e2 subD (eVar 8) (eC (.int 2)) ρ = some (.int ((i : Nat) : Int)) := fun ρ h => ev_e2 (a := .int ((i + 2 : Nat) : Int)) (b := .int 2) h rfl (by show some (PyData.int (((i + 2 : Nat) : Int) - 2)) = _; rw [show ((i + 2 : Nat) : Int) - 2 = ((i : Nat) : Int) by omega])
      refine ⟨(pre X (i + 2)).d, ?_, R (some (.dat LN)) MI (some (.dat (pre X (i + 2)).d)) none none none none none none, rfl, ?_⟩
      · have e : (pre X (i + 2)).d = .tuple [.int X.n, .tuple (X.ks.map .str), .tuple ((X.ss.map Sr.d).take i), .tuple ((X.ws.map Wy.d).take (i - X.ss.length))] := by
          rw [← List.map_take, ← List.map_take]
          rfl
        rw [e]
        refine ev_tupX (ev_cons rfl (ev_cons rfl (ev_cons (ev_slT rfl (ev_pS (m2 _ rfl))) (ev_cons (ev_slT rfl (ev_pS ?_)) rfl)))) (by show 4 ≤ 1000; decide)
        refine ev_call1 (ds := [.int 0, .int (((i : Nat) : Int) - (X.ss.length : Nat))]) (ev_cons rfl (ev_cons (ev_e2 (a := .int ((i : Nat) : Int)) (b := .int (X.ss.length : Nat)) (m2 _ rfl) (lSS _ rfl) rfl) rfl)) ?_
        have em : (if ((i : Nat) : Int) - (X.ss.length : Nat) > 0 then ((i : Nat) : Int) - (X.ss.length : Nat) else 0) = ((i - X.ss.length : Nat) : Int) := by split <;> omega
        exact congrArg (fun j => some (PyData.int j)) em
      · have eL : ((lns X).map PyData.str).take (i + 2) = (lns (pre X (i + 2))).map .str := by rw [pre_lns, List.map_take]
        refine wIfNo9 (ev_not (b := true) (ev_oB (ev_call (ds := [(pre X (i + 2)).d, (pre X (i + 2)).d]) (ev_cons (ev_call (ds := [.str (txt (pre X (i + 2)))]) (ev_cons (ev_jnT (wd_b pk) rfl ((ev_slL rfl (ev_pS rfl)).trans (congrArg (fun l => some (PyData.list l)) eL))) rfl) rfl (Sem.of (S := SRdw) (x := pre X (i + 2)) pk)) (ev_cons rfl rfl)) rfl (sAl_ok (dp_wd pk))))) (q' _ _ ⟨_, _, rfl⟩ (by omega))
    · obtain ⟨y1, y2, rfl⟩ := i
      refine ⟨rfl, X.d, rfl, .int 2, rfl, _, rfl, _, rfl, rfl, ⟨X, 2, rfl, .inl rfl, hX⟩, by show 2 ≤ b2; omega, fun d b3 hd h3 => ?_⟩
      have hd : d = .bool true := hd
      subst hd
      have h3 : b2 ≤ b3 + 2 := h3
      refine ⟨true, rfl, false, rfl, iteB (fun h => nomatch h) fun _ => ?_⟩
      refine ⟨rfl, X.d, rfl, .int 3, rfl, _, rfl, _, rfl, rfl, ⟨X, 3, rfl, .inr rfl, hX⟩, by show 2 ≤ b3; omega, fun d b4 hd h4 => ?_⟩
      have hd : d = .bool true := hd
      subst hd
      refine ⟨true, rfl, false, rfl, iteB (fun h => nomatch h) fun _ => ?_⟩
      let m := X.ks.length
      let OS : D := qsD m
      let ES : D := .dict (esD X.ks (osX X))
      refine ⟨OS, ev_call1 (ds := [.list ((QS.take m).map .str)]) (ev_cons (ev_lcE (items := (List.range m).map fun (i : Nat) => PyData.int ((0 : Int) + i)) ?_ ?_) rfl) rfl, R (some (.dat LN)) y1 y2 (some (.dat OS)) none none none none none, rfl, ?_⟩
      · refine ev_itG (ds := [.int (m : Nat)]) (ev_cons (ev_call1 (ds := [.tuple (X.ks.map .str)]) (ev_cons rfl rfl) (by show some (PyData.int ((X.ks.map PyData.str).length : Nat)) = _; rw [List.length_map])) rfl) ?_
        rw [ran1_ok (by omega) (by omega)]
        rfl
      · rw [← q_rng k4]
        exact ev_lcG (e := fun i : Nat => PyData.int ((0 : Int) + i)) (t := fun i => PyData.str (repS (Str.ofString "q") (i + 1))) (List.range m) fun i hi => ⟨_, rfl, ev_e2 (a := .str (Str.ofString "q")) (b := .int ((0 : Int) + (i : Nat) + 1)) rfl (ev_e2 (a := .int ((0 : Int) + (i : Nat))) (b := .int 1) rfl rfl rfl) (q_mul (by have := List.mem_range.mp hi; omega))⟩
      refine ⟨ES, ev_call1 (ds := [.tuple (X.ks.map .str), OS]) rfl (dz_es (ks_nd hX)), R (some (.dat LN)) y1 y2 (some (.dat OS)) (some (.dat ES)) none none none none, rfl, ?_⟩
      refine ⟨X.ks.map .str, rfl, lcN_F9 (e := PyData.str) (t := PyData.str) (k := inSix) X.ks _ _ (fun z hz => ⟨_, rfl, fun b Q q => ⟨inSix z, ev_oB (ev_e2 (a := .str z) (b := .tuple (res9.map .str)) rfl rfl (if_pos (by rw [okD_str (ok_nm (hX.kg z hz)), res9_ok]; rfl))), q⟩, fun b Q q => ⟨.str z, rfl, q⟩⟩) ?_⟩
      let SP : D := .list ((X.ks.filter inSix).map .str)
      refine ⟨R (some (.dat LN)) y1 y2 (some (.dat OS)) (some (.dat ES)) (some (.dat SP)) none none none, rfl, ?_⟩
      by_cases hf : X.ks.filter inSix = []
      · have fr := fre_of hf
        have ok' : (rnX X (osX X)).ok := rn_ok hX (qs_len k4).symm (fun z hz => qs_g z (List.mem_of_mem_take hz)) (fun z hz => ⟨ok_nm (qs_g z (List.mem_of_mem_take hz)), Nat.le_trans (qs_g z (List.mem_of_mem_take hz)).2.1 (by decide)⟩) (qs_r.sublist (List.take_sublist ..))
        refine wIfNo9 (ev_oB (ev_e2 (a := SP) (b := .list []) rfl rfl (by show neZ (.list ((X.ks.filter inSix).map .str)) (.list []) = _; rw [hf]; rfl))) ?_
        let FD : D := (rnX X (osX X)).d
        refine ⟨FD, ev_call (ds := [.str (txt (rnX X (osX X)))]) (ev_cons (ev_jnT (wd_b ok') rfl (ev_call (ds := [LN, ES]) rfl rfl (Sem.of (S := SNmd) (x := X) ⟨hX, fr⟩))) rfl) rfl (Sem.of (S := SRdw) (x := rnX X (osX X)) ok'), R (some (.dat LN)) y1 y2 (some (.dat OS)) (some (.dat ES)) (some (.dat SP)) (some (.dat FD)) none none, rfl, ?_⟩
        exact ⟨.bool true, ev_call (ds := [FD, FD]) (ev_cons rfl (ev_cons (ev_call (ds := [X.d, OS]) rfl rfl (Sem.of (S := SRen) (x := X) hX)) rfl)) rfl (sAl_ok (dp_wd ok')), rfl⟩
      · refine ⟨true, ev_oB (ev_e2 (a := SP) (b := .list []) rfl rfl ?_), iteB (fun _ => ?_) fun h => nomatch h⟩
        · show neZ (.list ((X.ks.filter inSix).map .str)) (.list []) = _
          cases hq : X.ks.filter inSix with
          | nil => exact (hf hq).elim
          | cons _ _ => rfl
        · exact ⟨.bool true, rfl, rfl⟩
end
end Dl
namespace Dl
open PySem PySem.Spec PyProof.Rows L2 Rt
theorem all_mk {l : PySem.W.OpenLaw} {w : World} {K : PySem.W.Frag} {h : Heap} {mg : Str → Option Value} {fa f0 f1 f2 f3 f4 f5 f6 f7 f8 f9 f10 f11 f12 f13 f14 f15 f16 f17 f18 f19 f20 f21 f22 f23 f24 f25 f26 f27 f28 f29 f30 f31 f32 f33 f34 f35 f36 f37 f38 f39 : Addr} (X : K.In h) (G : h.Ns mainGlobals mg) (hfa : mg "law" = some (.ref fa))
    {od0 an0 od1 an1 od2 an2 od3 an3 od4 an4 od5 an5 od6 an6 od7 an7 od8 an8 od9 an9 od10 an10 od11 an11 od12 an12 od13 an13 od14 an14 od15 an15 od16 an16 od17 an17 od18 an18 od19 an19 od20 an20 od21 an21 od22 an22 od23 an23 od24 an24 od25 an25 od26 an26 od27 an27 od28 an28 od29 an29 od30 an30 od31 an31 od32 an32 od33 an33 od34 an34 od35 an35 od36 an36 od37 an37 od38 an38 od39 an39 : Option Addr} {sl0 sl1 sl2 sl3 sl4 sl5 sl6 sl7 sl8 sl9 sl10 sl11 sl12 sl13 sl14 sl15 sl16 sl17 sl18 sl19 sl20 sl21 sl22 sl23 sl24 sl25 sl26 sl27 sl28 sl29 sl30 sl31 sl32 sl33 sl34 sl35 sl36 sl37 sl38 sl39 : Array (Option Value)} {oc0 kV0 dc0 pm0 cd0 ct0 oc1 kV1 dc1 pm1 cd1 ct1 oc2 kV2 dc2 pm2 cd2 ct2 oc3 kV3 dc3 pm3 cd3 ct3 oc4 kV4 dc4 pm4 cd4 ct4 oc5 kV5 dc5 pm5 cd5 ct5 oc6 kV6 dc6 pm6 cd6 ct6 oc7 kV7 dc7 pm7 cd7 ct7 oc8 kV8 dc8 pm8 cd8 ct8 oc9 kV9 dc9 pm9 cd9 ct9 oc10 kV10 dc10 pm10 cd10 ct10 oc11 kV11 dc11 pm11 cd11 ct11 oc12 kV12 dc12 pm12 cd12 ct12 oc13 kV13 dc13 pm13 cd13 ct13 oc14 kV14 dc14 pm14 cd14 ct14 oc15 kV15 dc15 pm15 cd15 ct15 oc16 kV16 dc16 pm16 cd16 ct16 oc17 kV17 dc17 pm17 cd17 ct17 oc18 kV18 dc18 pm18 cd18 ct18 oc19 kV19 dc19 pm19 cd19 ct19 oc20 kV20 dc20 pm20 cd20 ct20 oc21 kV21 dc21 pm21 cd21 ct21 oc22 kV22 dc22 pm22 cd22 ct22 oc23 kV23 dc23 pm23 cd23 ct23 oc24 kV24 dc24 pm24 cd24 ct24 oc25 kV25 dc25 pm25 cd25 ct25 oc26 kV26 dc26 pm26 cd26 ct26 oc27 kV27 dc27 pm27 cd27 ct27 oc28 kV28 dc28 pm28 cd28 ct28 oc29 kV29 dc29 pm29 cd29 ct29 oc30 kV30 dc30 pm30 cd30 ct30 oc31 kV31 dc31 pm31 cd31 ct31 oc32 kV32 dc32 pm32 cd32 ct32 oc33 kV33 dc33 pm33 cd33 ct33 oc34 kV34 dc34 pm34 cd34 ct34 oc35 kV35 dc35 pm35 cd35 ct35 oc36 kV36 dc36 pm36 cd36 ct36 oc37 kV37 dc37 pm37 cd37 ct37 oc38 kV38 dc38 pm38 cd38 ct38 oc39 kV39 dc39 pm39 cd39 ct39 : Value}
    (a0 : PySem.W.nsIn K mainGlobals "is_number" = some (some (.ref f0))) (l0 : K.lookup f0 = some ⟨oc0, od0, .func (PySem.W.fnOf "is_number" "is_number" (defArgs s_is_number) (defBody s_is_number) (defScope s_is_number) .none kV0 dc0 pm0 an0 cd0 ct0), sl0⟩) (c0 : PySem.W.codeIn K cd0 "is_number" = true) (k0 : PySem.W.keepIn K (.ref f0) = true)
    (a1 : PySem.W.nsIn K mainGlobals "is_number_from" = some (some (.ref f1))) (l1 : K.lookup f1 = some ⟨oc1, od1, .func (PySem.W.fnOf "is_number_from" "is_number_from" (defArgs s_is_number_from) (defBody s_is_number_from) (defScope s_is_number_from) .none kV1 dc1 pm1 an1 cd1 ct1), sl1⟩) (c1 : PySem.W.codeIn K cd1 "is_number_from" = true) (k1 : PySem.W.keepIn K (.ref f1) = true)
    (a2 : PySem.W.nsIn K mainGlobals "is_name" = some (some (.ref f2))) (l2 : K.lookup f2 = some ⟨oc2, od2, .func (PySem.W.fnOf "is_name" "is_name" (defArgs s_is_name) (defBody s_is_name) (defScope s_is_name) .none kV2 dc2 pm2 an2 cd2 ct2), sl2⟩) (c2 : PySem.W.codeIn K cd2 "is_name" = true) (k2 : PySem.W.keepIn K (.ref f2) = true)
    (a3 : PySem.W.nsIn K mainGlobals "is_row" = some (some (.ref f3))) (l3 : K.lookup f3 = some ⟨oc3, od3, .func (PySem.W.fnOf "is_row" "is_row" (defArgs s_is_row) (defBody s_is_row) (defScope s_is_row) .none kV3 dc3 pm3 an3 cd3 ct3), sl3⟩) (c3 : PySem.W.codeIn K cd3 "is_row" = true) (k3 : PySem.W.keepIn K (.ref f3) = true)
    (a4 : PySem.W.nsIn K mainGlobals "is_rising" = some (some (.ref f4))) (l4 : K.lookup f4 = some ⟨oc4, od4, .func (PySem.W.fnOf "is_rising" "is_rising" (defArgs s_is_rising) (defBody s_is_rising) (defScope s_is_rising) .none kV4 dc4 pm4 an4 cd4 ct4), sl4⟩) (c4 : PySem.W.codeIn K cd4 "is_rising" = true) (k4 : PySem.W.keepIn K (.ref f4) = true)
    (a5 : PySem.W.nsIn K mainGlobals "kinds_fault" = some (some (.ref f5))) (l5 : K.lookup f5 = some ⟨oc5, od5, .func (PySem.W.fnOf "kinds_fault" "kinds_fault" (defArgs s_kinds_fault) (defBody s_kinds_fault) (defScope s_kinds_fault) .none kV5 dc5 pm5 an5 cd5 ct5), sl5⟩) (c5 : PySem.W.codeIn K cd5 "kinds_fault" = true) (k5 : PySem.W.keepIn K (.ref f5) = true)
    (a6 : PySem.W.nsIn K mainGlobals "source_fault" = some (some (.ref f6))) (l6 : K.lookup f6 = some ⟨oc6, od6, .func (PySem.W.fnOf "source_fault" "source_fault" (defArgs s_source_fault) (defBody s_source_fault) (defScope s_source_fault) .none kV6 dc6 pm6 an6 cd6 ct6), sl6⟩) (c6 : PySem.W.codeIn K cd6 "source_fault" = true) (k6 : PySem.W.keepIn K (.ref f6) = true)
    (a7 : PySem.W.nsIn K mainGlobals "fault_below" = some (some (.ref f7))) (l7 : K.lookup f7 = some ⟨oc7, od7, .func (PySem.W.fnOf "fault_below" "fault_below" (defArgs s_fault_below) (defBody s_fault_below) (defScope s_fault_below) .none kV7 dc7 pm7 an7 cd7 ct7), sl7⟩) (c7 : PySem.W.codeIn K cd7 "fault_below" = true) (k7 : PySem.W.keepIn K (.ref f7) = true)
    (a8 : PySem.W.nsIn K mainGlobals "sources_fault" = some (some (.ref f8))) (l8 : K.lookup f8 = some ⟨oc8, od8, .func (PySem.W.fnOf "sources_fault" "sources_fault" (defArgs s_sources_fault) (defBody s_sources_fault) (defScope s_sources_fault) .none kV8 dc8 pm8 an8 cd8 ct8), sl8⟩) (c8 : PySem.W.codeIn K cd8 "sources_fault" = true) (k8 : PySem.W.keepIn K (.ref f8) = true)
    (a9 : PySem.W.nsIn K mainGlobals "part_fault" = some (some (.ref f9))) (l9 : K.lookup f9 = some ⟨oc9, od9, .func (PySem.W.fnOf "part_fault" "part_fault" (defArgs s_part_fault) (defBody s_part_fault) (defScope s_part_fault) .none kV9 dc9 pm9 an9 cd9 ct9), sl9⟩) (c9 : PySem.W.codeIn K cd9 "part_fault" = true) (k9 : PySem.W.keepIn K (.ref f9) = true)
    (a10 : PySem.W.nsIn K mainGlobals "parts_fault" = some (some (.ref f10))) (l10 : K.lookup f10 = some ⟨oc10, od10, .func (PySem.W.fnOf "parts_fault" "parts_fault" (defArgs s_parts_fault) (defBody s_parts_fault) (defScope s_parts_fault) .none kV10 dc10 pm10 an10 cd10 ct10), sl10⟩) (c10 : PySem.W.codeIn K cd10 "parts_fault" = true) (k10 : PySem.W.keepIn K (.ref f10) = true)
    (a11 : PySem.W.nsIn K mainGlobals "is_hours" = some (some (.ref f11))) (l11 : K.lookup f11 = some ⟨oc11, od11, .func (PySem.W.fnOf "is_hours" "is_hours" (defArgs s_is_hours) (defBody s_is_hours) (defScope s_is_hours) .none kV11 dc11 pm11 an11 cd11 ct11), sl11⟩) (c11 : PySem.W.codeIn K cd11 "is_hours" = true) (k11 : PySem.W.keepIn K (.ref f11) = true)
    (a12 : PySem.W.nsIn K mainGlobals "way_fault" = some (some (.ref f12))) (l12 : K.lookup f12 = some ⟨oc12, od12, .func (PySem.W.fnOf "way_fault" "way_fault" (defArgs s_way_fault) (defBody s_way_fault) (defScope s_way_fault) .none kV12 dc12 pm12 an12 cd12 ct12), sl12⟩) (c12 : PySem.W.codeIn K cd12 "way_fault" = true) (k12 : PySem.W.keepIn K (.ref f12) = true)
    (a13 : PySem.W.nsIn K mainGlobals "ways_fault" = some (some (.ref f13))) (l13 : K.lookup f13 = some ⟨oc13, od13, .func (PySem.W.fnOf "ways_fault" "ways_fault" (defArgs s_ways_fault) (defBody s_ways_fault) (defScope s_ways_fault) .none kV13 dc13 pm13 an13 cd13 ct13), sl13⟩) (c13 : PySem.W.codeIn K cd13 "ways_fault" = true) (k13 : PySem.W.keepIn K (.ref f13) = true)
    (a14 : PySem.W.nsIn K mainGlobals "worldfault" = some (some (.ref f14))) (l14 : K.lookup f14 = some ⟨oc14, od14, .func (PySem.W.fnOf "worldfault" "worldfault" (defArgs s_worldfault) (defBody s_worldfault) (defScope s_worldfault) .none kV14 dc14 pm14 an14 cd14 ct14), sl14⟩) (c14 : PySem.W.codeIn K cd14 "worldfault" = true) (k14 : PySem.W.keepIn K (.ref f14) = true)
    (a15 : PySem.W.nsIn K mainGlobals "source_line" = some (some (.ref f15))) (l15 : K.lookup f15 = some ⟨oc15, od15, .func (PySem.W.fnOf "source_line" "source_line" (defArgs s_source_line) (defBody s_source_line) (defScope s_source_line) .none kV15 dc15 pm15 an15 cd15 ct15), sl15⟩) (c15 : PySem.W.codeIn K cd15 "source_line" = true) (k15 : PySem.W.keepIn K (.ref f15) = true)
    (a16 : PySem.W.nsIn K mainGlobals "way_line" = some (some (.ref f16))) (l16 : K.lookup f16 = some ⟨oc16, od16, .func (PySem.W.fnOf "way_line" "way_line" (defArgs s_way_line) (defBody s_way_line) (defScope s_way_line) .none kV16 dc16 pm16 an16 cd16 ct16), sl16⟩) (c16 : PySem.W.codeIn K cd16 "way_line" = true) (k16 : PySem.W.keepIn K (.ref f16) = true)
    (a17 : PySem.W.nsIn K mainGlobals "world_lines" = some (some (.ref f17))) (l17 : K.lookup f17 = some ⟨oc17, od17, .func (PySem.W.fnOf "world_lines" "world_lines" (defArgs s_world_lines) (defBody s_world_lines) (defScope s_world_lines) .none kV17 dc17 pm17 an17 cd17 ct17), sl17⟩) (c17 : PySem.W.codeIn K cd17 "world_lines" = true) (k17 : PySem.W.keepIn K (.ref f17) = true)
    (a18 : PySem.W.nsIn K mainGlobals "world_text" = some (some (.ref f18))) (l18 : K.lookup f18 = some ⟨oc18, od18, .func (PySem.W.fnOf "world_text" "world_text" (defArgs s_world_text) (defBody s_world_text) (defScope s_world_text) .none kV18 dc18 pm18 an18 cd18 ct18), sl18⟩) (c18 : PySem.W.codeIn K cd18 "world_text" = true) (k18 : PySem.W.keepIn K (.ref f18) = true)
    (a19 : PySem.W.nsIn K mainGlobals "number_of" = some (some (.ref f19))) (l19 : K.lookup f19 = some ⟨oc19, od19, .func (PySem.W.fnOf "number_of" "number_of" (defArgs s_number_of) (defBody s_number_of) (defScope s_number_of) .none kV19 dc19 pm19 an19 cd19 ct19), sl19⟩) (c19 : PySem.W.codeIn K cd19 "number_of" = true) (k19 : PySem.W.keepIn K (.ref f19) = true)
    (a20 : PySem.W.nsIn K mainGlobals "row_of" = some (some (.ref f20))) (l20 : K.lookup f20 = some ⟨oc20, od20, .func (PySem.W.fnOf "row_of" "row_of" (defArgs s_row_of) (defBody s_row_of) (defScope s_row_of) .none kV20 dc20 pm20 an20 cd20 ct20), sl20⟩) (c20 : PySem.W.codeIn K cd20 "row_of" = true) (k20 : PySem.W.keepIn K (.ref f20) = true)
    (a21 : PySem.W.nsIn K mainGlobals "hours_of" = some (some (.ref f21))) (l21 : K.lookup f21 = some ⟨oc21, od21, .func (PySem.W.fnOf "hours_of" "hours_of" (defArgs s_hours_of) (defBody s_hours_of) (defScope s_hours_of) .none kV21 dc21 pm21 an21 cd21 ct21), sl21⟩) (c21 : PySem.W.codeIn K cd21 "hours_of" = true) (k21 : PySem.W.keepIn K (.ref f21) = true)
    (a22 : PySem.W.nsIn K mainGlobals "way_of" = some (some (.ref f22))) (l22 : K.lookup f22 = some ⟨oc22, od22, .func (PySem.W.fnOf "way_of" "way_of" (defArgs s_way_of) (defBody s_way_of) (defScope s_way_of) .none kV22 dc22 pm22 an22 cd22 ct22), sl22⟩) (c22 : PySem.W.codeIn K cd22 "way_of" = true) (k22 : PySem.W.keepIn K (.ref f22) = true)
    (a23 : PySem.W.nsIn K mainGlobals "with_line" = some (some (.ref f23))) (l23 : K.lookup f23 = some ⟨oc23, od23, .func (PySem.W.fnOf "with_line" "with_line" (defArgs s_with_line) (defBody s_with_line) (defScope s_with_line) .none kV23 dc23 pm23 an23 cd23 ct23), sl23⟩) (c23 : PySem.W.codeIn K cd23 "with_line" = true) (k23 : PySem.W.keepIn K (.ref f23) = true)
    (a24 : PySem.W.nsIn K mainGlobals "read_world" = some (some (.ref f24))) (l24 : K.lookup f24 = some ⟨oc24, od24, .func (PySem.W.fnOf "read_world" "read_world" (defArgs s_read_world) (defBody s_read_world) (defScope s_read_world) .none kV24 dc24 pm24 an24 cd24 ct24), sl24⟩) (c24 : PySem.W.codeIn K cd24 "read_world" = true) (k24 : PySem.W.keepIn K (.ref f24) = true)
    (a25 : PySem.W.nsIn K mainGlobals "are_names" = some (some (.ref f25))) (l25 : K.lookup f25 = some ⟨oc25, od25, .func (PySem.W.fnOf "are_names" "are_names" (defArgs s_are_names) (defBody s_are_names) (defScope s_are_names) .none kV25 dc25 pm25 an25 cd25 ct25), sl25⟩) (c25 : PySem.W.codeIn K cd25 "are_names" = true) (k25 : PySem.W.keepIn K (.ref f25) = true)
    (a26 : PySem.W.nsIn K mainGlobals "renamed_way" = some (some (.ref f26))) (l26 : K.lookup f26 = some ⟨oc26, od26, .func (PySem.W.fnOf "renamed_way" "renamed_way" (defArgs s_renamed_way) (defBody s_renamed_way) (defScope s_renamed_way) .none kV26 dc26 pm26 an26 cd26 ct26), sl26⟩) (c26 : PySem.W.codeIn K cd26 "renamed_way" = true) (k26 : PySem.W.keepIn K (.ref f26) = true)
    (a27 : PySem.W.nsIn K mainGlobals "renamed" = some (some (.ref f27))) (l27 : K.lookup f27 = some ⟨oc27, od27, .func (PySem.W.fnOf "renamed" "renamed" (defArgs s_renamed) (defBody s_renamed) (defScope s_renamed) .none kV27 dc27 pm27 an27 cd27 ct27), sl27⟩) (c27 : PySem.W.codeIn K cd27 "renamed" = true) (k27 : PySem.W.keepIn K (.ref f27) = true)
    (a28 : PySem.W.nsIn K mainGlobals "_law_draws" = some (some (.ref f28))) (l28 : K.lookup f28 = some ⟨oc28, od28, .func (PySem.W.fnOf "_law_draws" "_law_draws" (defArgs s_law_draws) (defBody s_law_draws) (defScope s_law_draws) .none kV28 dc28 pm28 an28 cd28 ct28), sl28⟩) (c28 : PySem.W.codeIn K cd28 "_law_draws" = true) (k28 : PySem.W.keepIn K (.ref f28) = true)
    (a29 : PySem.W.nsIn K mainGlobals "_law_next" = some (some (.ref f29))) (l29 : K.lookup f29 = some ⟨oc29, od29, .func (PySem.W.fnOf "_law_next" "_law_next" (defArgs s_law_next) (defBody s_law_next) (defScope s_law_next) .none kV29 dc29 pm29 an29 cd29 ct29), sl29⟩) (c29 : PySem.W.codeIn K cd29 "_law_next" = true) (k29 : PySem.W.keepIn K (.ref f29) = true)
    (a30 : PySem.W.nsIn K mainGlobals "_law_alike" = some (some (.ref f30))) (l30 : K.lookup f30 = some ⟨oc30, od30, .func (PySem.W.fnOf "_law_alike" "_law_alike" (defArgs s_law_alike) (defBody s_law_alike) (defScope s_law_alike) .none kV30 dc30 pm30 an30 cd30 ct30), sl30⟩) (c30 : PySem.W.codeIn K cd30 "_law_alike" = true) (k30 : PySem.W.keepIn K (.ref f30) = true)
    (a31 : PySem.W.nsIn K mainGlobals "_law_names" = some (some (.ref f31))) (l31 : K.lookup f31 = some ⟨oc31, od31, .func (PySem.W.fnOf "_law_names" "_law_names" (defArgs s_law_names) (defBody s_law_names) (defScope s_law_names) .none kV31 dc31 pm31 an31 cd31 ct31), sl31⟩) (c31 : PySem.W.codeIn K cd31 "_law_names" = true) (k31 : PySem.W.keepIn K (.ref f31) = true)
    (a32 : PySem.W.nsIn K mainGlobals "_law_part" = some (some (.ref f32))) (l32 : K.lookup f32 = some ⟨oc32, od32, .func (PySem.W.fnOf "_law_part" "_law_part" (defArgs s_law_part) (defBody s_law_part) (defScope s_law_part) .none kV32 dc32 pm32 an32 cd32 ct32), sl32⟩) (c32 : PySem.W.codeIn K cd32 "_law_part" = true) (k32 : PySem.W.keepIn K (.ref f32) = true)
    (a33 : PySem.W.nsIn K mainGlobals "_law_way" = some (some (.ref f33))) (l33 : K.lookup f33 = some ⟨oc33, od33, .func (PySem.W.fnOf "_law_way" "_law_way" (defArgs s_law_way) (defBody s_law_way) (defScope s_law_way) .none kV33 dc33 pm33 an33 cd33 ct33), sl33⟩) (c33 : PySem.W.codeIn K cd33 "_law_way" = true) (k33 : PySem.W.keepIn K (.ref f33) = true)
    (a34 : PySem.W.nsIn K mainGlobals "_law_source" = some (some (.ref f34))) (l34 : K.lookup f34 = some ⟨oc34, od34, .func (PySem.W.fnOf "_law_source" "_law_source" (defArgs s_law_source) (defBody s_law_source) (defScope s_law_source) .none kV34 dc34 pm34 an34 cd34 ct34), sl34⟩) (c34 : PySem.W.codeIn K cd34 "_law_source" = true) (k34 : PySem.W.keepIn K (.ref f34) = true)
    (a35 : PySem.W.nsIn K mainGlobals "_law_world" = some (some (.ref f35))) (l35 : K.lookup f35 = some ⟨oc35, od35, .func (PySem.W.fnOf "_law_world" "_law_world" (defArgs s_law_world) (defBody s_law_world) (defScope s_law_world) .none kV35 dc35 pm35 an35 cd35 ct35), sl35⟩) (c35 : PySem.W.codeIn K cd35 "_law_world" = true) (k35 : PySem.W.keepIn K (.ref f35) = true)
    (a36 : PySem.W.nsIn K mainGlobals "_law_exchanged" = some (some (.ref f36))) (l36 : K.lookup f36 = some ⟨oc36, od36, .func (PySem.W.fnOf "_law_exchanged" "_law_exchanged" (defArgs s_law_exchanged) (defBody s_law_exchanged) (defScope s_law_exchanged) .none kV36 dc36 pm36 an36 cd36 ct36), sl36⟩) (c36 : PySem.W.codeIn K cd36 "_law_exchanged" = true) (k36 : PySem.W.keepIn K (.ref f36) = true)
    (a37 : PySem.W.nsIn K mainGlobals "_law_swapped" = some (some (.ref f37))) (l37 : K.lookup f37 = some ⟨oc37, od37, .func (PySem.W.fnOf "_law_swapped" "_law_swapped" (defArgs s_law_swapped) (defBody s_law_swapped) (defScope s_law_swapped) .none kV37 dc37 pm37 an37 cd37 ct37), sl37⟩) (c37 : PySem.W.codeIn K cd37 "_law_swapped" = true) (k37 : PySem.W.keepIn K (.ref f37) = true)
    (a38 : PySem.W.nsIn K mainGlobals "_law_named" = some (some (.ref f38))) (l38 : K.lookup f38 = some ⟨oc38, od38, .func (PySem.W.fnOf "_law_named" "_law_named" (defArgs s_law_named) (defBody s_law_named) (defScope s_law_named) .none kV38 dc38 pm38 an38 cd38 ct38), sl38⟩) (c38 : PySem.W.codeIn K cd38 "_law_named" = true) (k38 : PySem.W.keepIn K (.ref f38) = true)
    (a39 : PySem.W.nsIn K mainGlobals "law" = some (some (.ref f39))) (l39 : K.lookup f39 = some ⟨oc39, od39, .func (PySem.W.fnOf "law" "law" (defArgs s_law) (defBody s_law) (defScope s_law) .none kV39 dc39 pm39 an39 cd39 ct39), sl39⟩) (c39 : PySem.W.codeIn K cd39 "law" = true) (k39 : PySem.W.keepIn K (.ref f39) = true)
    (z_isinstance : PySem.W.nsIn K mainGlobals "isinstance" = some none)
    (z_int : PySem.W.nsIn K mainGlobals "int" = some none)
    (z_bool : PySem.W.nsIn K mainGlobals "bool" = some none)
    (z_str : PySem.W.nsIn K mainGlobals "str" = some none)
    (z_len : PySem.W.nsIn K mainGlobals "len" = some none)
    (z_all : PySem.W.nsIn K mainGlobals "all" = some none)
    (z_tuple : PySem.W.nsIn K mainGlobals "tuple" = some none)
    (z_zip : PySem.W.nsIn K mainGlobals "zip" = some none)
    (z_enumerate : PySem.W.nsIn K mainGlobals "enumerate" = some none)
    (z_range : PySem.W.nsIn K mainGlobals "range" = some none)
    (z_set : PySem.W.nsIn K mainGlobals "set" = some none)
    (z_sorted : PySem.W.nsIn K mainGlobals "sorted" = some none)
    (z_list : PySem.W.nsIn K mainGlobals "list" = some none)
    (z_min : PySem.W.nsIn K mainGlobals "min" = some none)
    (z_max : PySem.W.nsIn K mainGlobals "max" = some none)
    (z_dict : PySem.W.nsIn K mainGlobals "dict" = some none)
    {t_ROUND : Tok} (y_ROUND : PySem.W.nsIn K mainGlobals "ROUND" = some (some (.int 6 t_ROUND)))
    {t_KINDS : Tok} (y_KINDS : PySem.W.nsIn K mainGlobals "KINDS" = some (some (.int 4 t_KINDS)))
    {t_SOURCES : Tok} (y_SOURCES : PySem.W.nsIn K mainGlobals "SOURCES" = some (some (.int 6 t_SOURCES)))
    {t_OLD : Tok} (y_OLD : PySem.W.nsIn K mainGlobals "OLD" = some (some (.int 20 t_OLD)))
    {t_SINCE : Tok} (y_SINCE : PySem.W.nsIn K mainGlobals "SINCE" = some (some (.int 1000000 t_SINCE)))
    {t_MANY : Tok} (y_MANY : PySem.W.nsIn K mainGlobals "MANY" = some (some (.int 9 t_MANY)))
    {t_WAYS : Tok} (y_WAYS : PySem.W.nsIn K mainGlobals "WAYS" = some (some (.int 8 t_WAYS)))
    {t_PARTS : Tok} (y_PARTS : PySem.W.nsIn K mainGlobals "PARTS" = some (some (.int 3 t_PARTS)))
    {t_WAIT : Tok} (y_WAIT : PySem.W.nsIn K mainGlobals "WAIT" = some (some (.int 6 t_WAIT)))
    {t_NAME_LENGTH : Tok} (y_NAME_LENGTH : PySem.W.nsIn K mainGlobals "NAME_LENGTH" = some (some (.int 8 t_NAME_LENGTH)))
    {t_FIGURES : Tok} (y_FIGURES : PySem.W.nsIn K mainGlobals "FIGURES" = some (some (.int 16 t_FIGURES)))
    {t_LEAST_LINES : Tok} (y_LEAST_LINES : PySem.W.nsIn K mainGlobals "LEAST_LINES" = some (some (.int 2 t_LEAST_LINES)))
    {t_LETTERS : Tok} (y_LETTERS : PySem.W.nsIn K mainGlobals "LETTERS" = some (some (.str (Str.ofString "abcdefghijklmnopqrstuvwxyz") t_LETTERS)))
    {t_DIGITS : Tok} (y_DIGITS : PySem.W.nsIn K mainGlobals "DIGITS" = some (some (.str (Str.ofString "0123456789") t_DIGITS)))
    {t_NO_HOURS : Tok} (y_NO_HOURS : PySem.W.nsIn K mainGlobals "NO_HOURS" = some (some (.str (Str.ofString "-") t_NO_HOURS)))
    : ∃ fd : FuncData, (∀ (s : Shared) (v : Value), BindsTo s fd ⟨[v], []⟩ [("_law_script", v)]) ∧ ∀ base : Heap, K.In base → base.Ns mainGlobals mg → FnOk l.prog w K mg base CX0 10 fa fd ["_law_script"] (spLaw K) := by
  have e := hfa.symm.trans (PySem.W.mg_of X G a39)
  cases e
  have F0 := fun_mk (st := s_is_number) l0 c0 k0
  have b0 := F0.binds (ps := ["thing"]) fun _ _ _ _ _ _ us hl => match us, hl with | [_], _ => rfl
  have g0 := PySem.W.mg_of X G a0
  have F1 := fun_mk (st := s_is_number_from) l1 c1 k1
  have b1 := F1.binds (ps := ["thing", "low", "high"]) fun _ _ _ _ _ _ us hl => match us, hl with | [_, _, _], _ => rfl
  have g1 := PySem.W.mg_of X G a1
  have F2 := fun_mk (st := s_is_name) l2 c2 k2
  have b2 := F2.binds (ps := ["thing"]) fun _ _ _ _ _ _ us hl => match us, hl with | [_], _ => rfl
  have g2 := PySem.W.mg_of X G a2
  have F3 := fun_mk (st := s_is_row) l3 c3 k3
  have b3 := F3.binds (ps := ["thing", "fewest", "most"]) fun _ _ _ _ _ _ us hl => match us, hl with | [_, _, _], _ => rfl
  have g3 := PySem.W.mg_of X G a3
  have F4 := fun_mk (st := s_is_rising) l4 c4 k4
  have b4 := F4.binds (ps := ["row"]) fun _ _ _ _ _ _ us hl => match us, hl with | [_], _ => rfl
  have g4 := PySem.W.mg_of X G a4
  have F5 := fun_mk (st := s_kinds_fault) l5 c5 k5
  have b5 := F5.binds (ps := ["kinds"]) fun _ _ _ _ _ _ us hl => match us, hl with | [_], _ => rfl
  have g5 := PySem.W.mg_of X G a5
  have F6 := fun_mk (st := s_source_fault) l6 c6 k6
  have b6 := F6.binds (ps := ["span", "kinds", "source"]) fun _ _ _ _ _ _ us hl => match us, hl with | [_, _, _], _ => rfl
  have g6 := PySem.W.mg_of X G a6
  have F7 := fun_mk (st := s_fault_below) l7 c7 k7
  have b7 := F7.binds (ps := ["path", "fault"]) fun _ _ _ _ _ _ us hl => match us, hl with | [_, _], _ => rfl
  have g7 := PySem.W.mg_of X G a7
  have F8 := fun_mk (st := s_sources_fault) l8 c8 k8
  have b8 := F8.binds (ps := ["span", "kinds", "sources"]) fun _ _ _ _ _ _ us hl => match us, hl with | [_, _, _], _ => rfl
  have g8 := PySem.W.mg_of X G a8
  have F9 := fun_mk (st := s_part_fault) l9 c9 k9
  have b9 := F9.binds (ps := ["kinds", "part"]) fun _ _ _ _ _ _ us hl => match us, hl with | [_, _], _ => rfl
  have g9 := PySem.W.mg_of X G a9
  have F10 := fun_mk (st := s_parts_fault) l10 c10 k10
  have b10 := F10.binds (ps := ["kinds", "parts"]) fun _ _ _ _ _ _ us hl => match us, hl with | [_, _], _ => rfl
  have g10 := PySem.W.mg_of X G a10
  have F11 := fun_mk (st := s_is_hours) l11 c11 k11
  have b11 := F11.binds (ps := ["span", "hours"]) fun _ _ _ _ _ _ us hl => match us, hl with | [_, _], _ => rfl
  have g11 := PySem.W.mg_of X G a11
  have F12 := fun_mk (st := s_way_fault) l12 c12 k12
  have b12 := F12.binds (ps := ["span", "kinds", "way"]) fun _ _ _ _ _ _ us hl => match us, hl with | [_, _, _], _ => rfl
  have g12 := PySem.W.mg_of X G a12
  have F13 := fun_mk (st := s_ways_fault) l13 c13 k13
  have b13 := F13.binds (ps := ["span", "kinds", "ways"]) fun _ _ _ _ _ _ us hl => match us, hl with | [_, _, _], _ => rfl
  have g13 := PySem.W.mg_of X G a13
  have F14 := fun_mk (st := s_worldfault) l14 c14 k14
  have b14 := F14.binds (ps := ["thing"]) fun _ _ _ _ _ _ us hl => match us, hl with | [_], _ => rfl
  have g14 := PySem.W.mg_of X G a14
  have F15 := fun_mk (st := s_source_line) l15 c15 k15
  have b15 := F15.binds (ps := ["source"]) fun _ _ _ _ _ _ us hl => match us, hl with | [_], _ => rfl
  have g15 := PySem.W.mg_of X G a15
  have F16 := fun_mk (st := s_way_line) l16 c16 k16
  have b16 := F16.binds (ps := ["way"]) fun _ _ _ _ _ _ us hl => match us, hl with | [_], _ => rfl
  have g16 := PySem.W.mg_of X G a16
  have F17 := fun_mk (st := s_world_lines) l17 c17 k17
  have b17 := F17.binds (ps := ["world"]) fun _ _ _ _ _ _ us hl => match us, hl with | [_], _ => rfl
  have g17 := PySem.W.mg_of X G a17
  have F18 := fun_mk (st := s_world_text) l18 c18 k18
  have b18 := F18.binds (ps := ["world"]) fun _ _ _ _ _ _ us hl => match us, hl with | [_], _ => rfl
  have g18 := PySem.W.mg_of X G a18
  have F19 := fun_mk (st := s_number_of) l19 c19 k19
  have b19 := F19.binds (ps := ["word"]) fun _ _ _ _ _ _ us hl => match us, hl with | [_], _ => rfl
  have g19 := PySem.W.mg_of X G a19
  have F20 := fun_mk (st := s_row_of) l20 c20 k20
  have b20 := F20.binds (ps := ["words"]) fun _ _ _ _ _ _ us hl => match us, hl with | [_], _ => rfl
  have g20 := PySem.W.mg_of X G a20
  have F21 := fun_mk (st := s_hours_of) l21 c21 k21
  have b21 := F21.binds (ps := ["word"]) fun _ _ _ _ _ _ us hl => match us, hl with | [_], _ => rfl
  have g21 := PySem.W.mg_of X G a21
  have F22 := fun_mk (st := s_way_of) l22 c22 k22
  have b22 := F22.binds (ps := ["words"]) fun _ _ _ _ _ _ us hl => match us, hl with | [_], _ => rfl
  have g22 := PySem.W.mg_of X G a22
  have F23 := fun_mk (st := s_with_line) l23 c23 k23
  have b23 := F23.binds (ps := ["world", "number", "line"]) fun _ _ _ _ _ _ us hl => match us, hl with | [_, _, _], _ => rfl
  have g23 := PySem.W.mg_of X G a23
  have F24 := fun_mk (st := s_read_world) l24 c24 k24
  have b24 := F24.binds (ps := ["text"]) fun _ _ _ _ _ _ us hl => match us, hl with | [_], _ => rfl
  have g24 := PySem.W.mg_of X G a24
  have F25 := fun_mk (st := s_are_names) l25 c25 k25
  have b25 := F25.binds (ps := ["thing", "many"]) fun _ _ _ _ _ _ us hl => match us, hl with | [_, _], _ => rfl
  have g25 := PySem.W.mg_of X G a25
  have F26 := fun_mk (st := s_renamed_way) l26 c26 k26
  have b26 := F26.binds (ps := ["way", "new"]) fun _ _ _ _ _ _ us hl => match us, hl with | [_, _], _ => rfl
  have g26 := PySem.W.mg_of X G a26
  have F27 := fun_mk (st := s_renamed) l27 c27 k27
  have b27 := F27.binds (ps := ["world", "names"]) fun _ _ _ _ _ _ us hl => match us, hl with | [_, _], _ => rfl
  have g27 := PySem.W.mg_of X G a27
  have F28 := fun_mk (st := s_law_draws) l28 c28 k28
  have b28 := F28.binds (ps := ["_law_script", "_law_may"]) fun _ _ _ _ _ _ us hl => match us, hl with | [_, _], _ => rfl
  have g28 := PySem.W.mg_of X G a28
  have F29 := fun_mk (st := s_law_next) l29 c29 k29
  have b29 := F29.binds (ps := ["_law_drawn", "_law_many"]) fun _ _ _ _ _ _ us hl => match us, hl with | [_, _], _ => rfl
  have g29 := PySem.W.mg_of X G a29
  have F30 := fun_mk (st := s_law_alike) l30 c30 k30
  have b30 := F30.binds (ps := ["_law_one", "_law_other"]) fun _ _ _ _ _ _ us hl => match us, hl with | [_, _], _ => rfl
  have g30 := PySem.W.mg_of X G a30
  have F31 := fun_mk (st := s_law_names) l31 c31 k31
  have b31 := F31.binds (ps := ["_law_drawn", "_law_many"]) fun _ _ _ _ _ _ us hl => match us, hl with | [_, _], _ => rfl
  have g31 := PySem.W.mg_of X G a31
  have F32 := fun_mk (st := s_law_part) l32 c32 k32
  have b32 := F32.binds (ps := ["_law_drawn", "_law_kinds"]) fun _ _ _ _ _ _ us hl => match us, hl with | [_, _], _ => rfl
  have g32 := PySem.W.mg_of X G a32
  have F33 := fun_mk (st := s_law_way) l33 c33 k33
  have b33 := F33.binds (ps := ["_law_drawn", "_law_size", "_law_kinds"]) fun _ _ _ _ _ _ us hl => match us, hl with | [_, _, _], _ => rfl
  have g33 := PySem.W.mg_of X G a33
  have F34 := fun_mk (st := s_law_source) l34 c34 k34
  have b34 := F34.binds (ps := ["_law_drawn", "_law_size", "_law_kinds", "_law_late"]) fun _ _ _ _ _ _ us hl => match us, hl with | [_, _, _, _], _ => rfl
  have g34 := PySem.W.mg_of X G a34
  have F35 := fun_mk (st := s_law_world) l35 c35 k35
  have b35 := F35.binds (ps := ["_law_drawn", "_law_late"]) fun _ _ _ _ _ _ us hl => match us, hl with | [_, _], _ => rfl
  have g35 := PySem.W.mg_of X G a35
  have F36 := fun_mk (st := s_law_exchanged) l36 c36 k36
  have b36 := F36.binds (ps := ["_law_drawn", "_law_some"]) fun _ _ _ _ _ _ us hl => match us, hl with | [_, _], _ => rfl
  have g36 := PySem.W.mg_of X G a36
  have F37 := fun_mk (st := s_law_swapped) l37 c37 k37
  have b37 := F37.binds (ps := ["_law_drawn", "_law_world_here", "_law_part_here"]) fun _ _ _ _ _ _ us hl => match us, hl with | [_, _, _], _ => rfl
  have g37 := PySem.W.mg_of X G a37
  have F38 := fun_mk (st := s_law_named) l38 c38 k38
  have b38 := F38.binds (ps := ["_law_lines", "_law_names_here"]) fun _ _ _ _ _ _ us hl => match us, hl with | [_, _], _ => rfl
  have g38 := PySem.W.mg_of X G a38
  have F39 := fun_mk (st := s_law) l39 c39 k39
  have b39 := F39.binds (ps := ["_law_script"]) fun _ _ _ _ _ _ us hl => match us, hl with | [_], _ => rfl
  have g39 := PySem.W.mg_of X G a39
  have m_isinstance := PySem.W.mg_none_of X G z_isinstance
  have m_int := PySem.W.mg_none_of X G z_int
  have m_bool := PySem.W.mg_none_of X G z_bool
  have m_str := PySem.W.mg_none_of X G z_str
  have m_len := PySem.W.mg_none_of X G z_len
  have m_all := PySem.W.mg_none_of X G z_all
  have m_tuple := PySem.W.mg_none_of X G z_tuple
  have m_zip := PySem.W.mg_none_of X G z_zip
  have m_enumerate := PySem.W.mg_none_of X G z_enumerate
  have m_range := PySem.W.mg_none_of X G z_range
  have m_set := PySem.W.mg_none_of X G z_set
  have m_sorted := PySem.W.mg_none_of X G z_sorted
  have m_list := PySem.W.mg_none_of X G z_list
  have m_min := PySem.W.mg_none_of X G z_min
  have m_max := PySem.W.mg_none_of X G z_max
  have m_dict := PySem.W.mg_none_of X G z_dict
  have g_ROUND := PySem.W.mg_of X G y_ROUND
  have g_KINDS := PySem.W.mg_of X G y_KINDS
  have g_SOURCES := PySem.W.mg_of X G y_SOURCES
  have g_OLD := PySem.W.mg_of X G y_OLD
  have g_SINCE := PySem.W.mg_of X G y_SINCE
  have g_MANY := PySem.W.mg_of X G y_MANY
  have g_WAYS := PySem.W.mg_of X G y_WAYS
  have g_PARTS := PySem.W.mg_of X G y_PARTS
  have g_WAIT := PySem.W.mg_of X G y_WAIT
  have g_NAME_LENGTH := PySem.W.mg_of X G y_NAME_LENGTH
  have g_FIGURES := PySem.W.mg_of X G y_FIGURES
  have g_LEAST_LINES := PySem.W.mg_of X G y_LEAST_LINES
  have g_LETTERS := PySem.W.mg_of X G y_LETTERS
  have g_DIGITS := PySem.W.mg_of X G y_DIGITS
  have g_NO_HOURS := PySem.W.mg_of X G y_NO_HOURS
  refine ⟨PySem.W.fnOf "law" "law" (defArgs s_law) (defBody s_law) (defScope s_law) .none kV39 dc39 pm39 an39 cd39 ct39, fun s v => .of_eq rfl, fun base _ _ => ?_⟩
  have C0 : Cl l.prog w K mg base 1 "is_number" ["thing"] (spD 1 Dx.sNum) := ⟨f0, _, Dx.ok_num F0 m_isinstance m_int m_bool, g0, F0.kp, b0⟩
  have C1 : Cl l.prog w K mg base 2 "is_number_from" ["thing", "low", "high"] (spD 3 Dx.sFrom) := ⟨f1, _, Dx.ok_from F1 C0, g1, F1.kp, b1⟩
  have C2 : Cl l.prog w K mg base 1 "is_name" ["thing"] (spD 1 Dx.sName) := ⟨f2, _, Dx.ok_name F2 m_isinstance m_str m_len m_all g_LETTERS g_NAME_LENGTH, g2, F2.kp, b2⟩
  have C3 : Cl l.prog w K mg base 1 "is_row" ["thing", "fewest", "most"] (spD 3 Dx.sRow) := ⟨f3, _, Dx.ok_row F3 m_isinstance m_tuple m_len, g3, F3.kp, b3⟩
  have C4 : Cl l.prog w K mg base 1 "is_rising" ["row"] (spD 1 Dx.sRis) := ⟨f4, _, Dx.ok_ris F4 m_all m_zip, g4, F4.kp, b4⟩
  have C5 : Cl l.prog w K mg base 2 "kinds_fault" ["kinds"] (spD 1 Dx.sKindsF) := ⟨f5, _, Dx.ok_kindsF F5 m_enumerate g_KINDS C3 C2, g5, F5.kp, b5⟩
  have C6 : Cl l.prog w K mg base 3 "source_fault" ["span", "kinds", "source"] (spD 3 Dx.sSrc) := ⟨f6, _, Dx.ok_src F6 g_OLD g_SINCE g_MANY C3 C1, g6, F6.kp, b6⟩
  have C7 : Cl l.prog w K mg base 1 "fault_below" ["path", "fault"] (spD 2 Dx.sBelow) := ⟨f7, _, Dx.ok_below F7, g7, F7.kp, b7⟩
  have C8 : Cl l.prog w K mg base 4 "sources_fault" ["span", "kinds", "sources"] (spD 3 Dx.sSrcs) := ⟨f8, _, Dx.ok_srcs F8 g_SOURCES m_enumerate C3 C6 C7, g8, F8.kp, b8⟩
  have C9 : Cl l.prog w K mg base 3 "part_fault" ["kinds", "part"] (spD 2 Dx.sPartF) := ⟨f9, _, Dx.ok_partF F9 g_OLD C3 C1, g9, F9.kp, b9⟩
  have C10 : Cl l.prog w K mg base 4 "parts_fault" ["kinds", "parts"] (spD 2 Dx.sPartsF) := ⟨f10, _, Dx.ok_partsF F10 g_PARTS m_enumerate C3 C9 C7, g10, F10.kp, b10⟩
  have C11 : Cl l.prog w K mg base 3 "is_hours" ["span", "hours"] (spD 2 Dx.sHours) := ⟨f11, _, Dx.ok_hours F11 m_all C3 C1 C4, g11, F11.kp, b11⟩
  have C12 : Cl l.prog w K mg base 5 "way_fault" ["span", "kinds", "way"] (spD 3 Dx.sWay) := ⟨f12, _, Dx.ok_wayF F12 g_WAIT C3 C1 C10 C7 C11, g12, F12.kp, b12⟩
  have C13 : Cl l.prog w K mg base 6 "ways_fault" ["span", "kinds", "ways"] (spD 3 Dx.sWays) := ⟨f13, _, Dx.ok_ways F13 g_WAYS m_enumerate C3 C12 C7, g13, F13.kp, b13⟩
  have C14 : Cl l.prog w K mg base 7 "worldfault" ["thing"] (spD 1 Dx.sWorldF) := ⟨f14, _, Dx.ok_worldF F14 g_ROUND C3 C1 C5 C8 C13, g14, F14.kp, b14⟩
  have C15 : Cl l.prog w K mg base 1 "source_line" ["source"] (spD 1 SSrcL.f) := ⟨f15, _, ok_srcL F15, g15, F15.kp, b15⟩
  have C16 : Cl l.prog w K mg base 1 "way_line" ["way"] (spD 1 SWayL.f) := ⟨f16, _, ok_wayL F16 m_str g_NO_HOURS, g16, F16.kp, b16⟩
  have C17 : Cl l.prog w K mg base 2 "world_lines" ["world"] (spD 1 SLns.f) := ⟨f17, _, ok_wldL F17 C15 C16, g17, F17.kp, b17⟩
  have C18 : Cl l.prog w K mg base 3 "world_text" ["world"] (spD 1 STxt.f) := ⟨f18, _, ok_wldT F18 C17, g18, F18.kp, b18⟩
  have C19 : Cl l.prog w K mg base 1 "number_of" ["word"] (spD 1 SNumO.f) := ⟨f19, _, ok_numO F19 m_len m_all m_int m_str g_FIGURES g_DIGITS, g19, F19.kp, b19⟩
  have C20 : Cl l.prog w K mg base 2 "row_of" ["words"] (spD 1 SRowO.f) := ⟨f20, _, ok_rowO F20 m_tuple C19, g20, F20.kp, b20⟩
  have C21 : Cl l.prog w K mg base 2 "hours_of" ["word"] (spD 1 SHrO.f) := ⟨f21, _, ok_hrO F21 m_tuple g_NO_HOURS C19, g21, F21.kp, b21⟩
  have C22 : Cl l.prog w K mg base 3 "way_of" ["words"] (spD 1 SWayO.f) := ⟨f22, _, ok_wayO F22 m_len m_range m_tuple C20 C21 C19, g22, F22.kp, b22⟩
  have C23 : Cl l.prog w K mg base 4 "with_line" ["world", "number", "line"] (spD 3 SWth.f) := ⟨f23, _, ok_wth F23 m_tuple C19 C20 C22, g23, F23.kp, b23⟩
  have C24 : Cl l.prog w K mg base 8 "read_world" ["text"] (spD 1 SRdw.f) := ⟨f24, _, ok_rdw F24 m_isinstance m_str m_len m_enumerate g_LEAST_LINES C23 C14 C17, g24, F24.kp, b24⟩
  have C25 : Cl l.prog w K mg base 2 "are_names" ["thing", "many"] (spD 2 SAre.f) := ⟨f25, _, ok_areN F25 m_all m_len m_set C3 C2, g25, F25.kp, b25⟩
  have C26 : Cl l.prog w K mg base 1 "renamed_way" ["way", "new"] (spD 2 SRwy.f) := ⟨f26, _, ok_rwy F26 m_tuple, g26, F26.kp, b26⟩
  have C27 : Cl l.prog w K mg base 3 "renamed" ["world", "names"] (spD 2 SRen.f) := ⟨f27, _, ok_ren F27 m_tuple m_len m_zip m_sorted C25 C26, g27, F27.kp, b27⟩
  have C28 : Cl l.prog w K mg base 1 "_law_draws" ["_law_script", "_law_may"] (spDraws K) := ⟨f28, _, ok_draws (k := 0) F28 m_len m_list m_int, g28, F28.kp, b28⟩
  have C29 : Cl l.prog w K mg base 1 "_law_next" ["_law_drawn", "_law_many"] (spN 1 gNext) := ⟨f29, _, ok_nextN (ok_next (k := 0) F29 m_len), g29, F29.kp, b29⟩
  have C30 : Cl l.prog w K mg base 6 "_law_alike" ["_law_one", "_law_other"] (spD 2 (sAl (dpA 6))) := ⟨f30, _, ok_alike F30 b30 g30 m_isinstance m_tuple m_bool m_int m_len m_range, g30, F30.kp, b30⟩
  have C31 : Cl l.prog w K mg base 2 "_law_names" ["_law_drawn", "_law_many"] (spN 1 gNames) := ⟨f31, _, ok_names F31 m_range m_len m_sorted m_tuple m_list C29, g31, F31.kp, b31⟩
  have C32 : Cl l.prog w K mg base 2 "_law_part" ["_law_drawn", "_law_kinds"] (spN 1 gPart) := ⟨f32, _, ok_part F32 m_min m_len C29, g32, F32.kp, b32⟩
  have C33 : Cl l.prog w K mg base 3 "_law_way" ["_law_drawn", "_law_size", "_law_kinds"] (spN 2 gWay) := ⟨f33, _, ok_way F33 m_range m_tuple m_len C29 C32, g33, F33.kp, b33⟩
  have C34 : Cl l.prog w K mg base 2 "_law_source" ["_law_drawn", "_law_size", "_law_kinds", "_law_late"] (spN 3 gSource) := ⟨f34, _, ok_source F34 m_len C29, g34, F34.kp, b34⟩
  have C35 : Cl l.prog w K mg base 4 "_law_world" ["_law_drawn", "_law_late"] (spN 1 gWorld) := ⟨f35, _, ok_world F35 m_range m_tuple C29 C31 C34 C33, g35, F35.kp, b35⟩
  have C36 : Cl l.prog w K mg base 2 "_law_exchanged" ["_law_drawn", "_law_some"] (spN 1 gExc) := ⟨f36, _, ok_exc F36 m_len m_list m_tuple C29, g36, F36.kp, b36⟩
  have C37 : Cl l.prog w K mg base 9 "_law_swapped" ["_law_drawn", "_law_world_here", "_law_part_here"] (spN 2 gSwp) := ⟨f37, _, ok_swp F37 m_len m_int C36 C18 C24 C30, g37, F37.kp, b37⟩
  have C38 : Cl l.prog w K mg base 1 "_law_named" ["_law_lines", "_law_names_here"] (spD 2 SNmd.f) := ⟨f38, _, ok_nmd F38, g38, F38.kp, b38⟩
  exact ok_law F39 m_range m_tuple m_len m_max m_dict m_zip C28 C35 C18 C24 C30 C37 C38 C27
end Dl
open PySem PySem.W PyProof.Rows
set_option maxHeartbeats 0 in
theorem PySem.Challenge.cw_rightage_k74_whole_texts_by_lines_holds : PySem.Challenge.rw_rightage_k74_whole_texts_by_lines.Holds := by
  w_on; o_law; k_head; (case hw => w_witness2)
  k_fill
  refine L2.walk_of (l := PySem.Challenge.rw_rightage_k74_whole_texts_by_lines) (n := 63) (k := 10) (x := "_law_script") (CX := fun _ => L2.CX0) (sp := fun w => Dl.spLaw _) rfl (by decide) rfl ⟨rfl, by decide, by decide⟩ (fun w h Y => PySem.W.kIn_of Y) ?F (fun _ _ a ns hl _ hS => ⟨a, ns, rfl, hS, hl, fun _ => rfl⟩) (fun _ _ _ _ _ h => h)
  case F =>
    intro w mg fa h KX G hmg
    refine' Dl.all_mk KX G hmg ?a0 ?l0 ?c0 ?k0 ?a1 ?l1 ?c1 ?k1 ?a2 ?l2 ?c2 ?k2 ?a3 ?l3 ?c3 ?k3 ?a4 ?l4 ?c4 ?k4 ?a5 ?l5 ?c5 ?k5 ?a6 ?l6 ?c6 ?k6 ?a7 ?l7 ?c7 ?k7 ?a8 ?l8 ?c8 ?k8 ?a9 ?l9 ?c9 ?k9 ?a10 ?l10 ?c10 ?k10 ?a11 ?l11 ?c11 ?k11 ?a12 ?l12 ?c12 ?k12 ?a13 ?l13 ?c13 ?k13 ?a14 ?l14 ?c14 ?k14 ?a15 ?l15 ?c15 ?k15 ?a16 ?l16 ?c16 ?k16 ?a17 ?l17 ?c17 ?k17 ?a18 ?l18 ?c18 ?k18 ?a19 ?l19 ?c19 ?k19 ?a20 ?l20 ?c20 ?k20 ?a21 ?l21 ?c21 ?k21 ?a22 ?l22 ?c22 ?k22 ?a23 ?l23 ?c23 ?k23 ?a24 ?l24 ?c24 ?k24 ?a25 ?l25 ?c25 ?k25 ?a26 ?l26 ?c26 ?k26 ?a27 ?l27 ?c27 ?k27 ?a28 ?l28 ?c28 ?k28 ?a29 ?l29 ?c29 ?k29 ?a30 ?l30 ?c30 ?k30 ?a31 ?l31 ?c31 ?k31 ?a32 ?l32 ?c32 ?k32 ?a33 ?l33 ?c33 ?k33 ?a34 ?l34 ?c34 ?k34 ?a35 ?l35 ?c35 ?k35 ?a36 ?l36 ?c36 ?k36 ?a37 ?l37 ?c37 ?k37 ?a38 ?l38 ?c38 ?k38 ?a39 ?l39 ?c39 ?k39 ?z_isinstance ?z_int ?z_bool ?z_str ?z_len ?z_all ?z_tuple ?z_zip ?z_enumerate ?z_range ?z_set ?z_sorted ?z_list ?z_min ?z_max ?z_dict ?y_ROUND ?y_KINDS ?y_SOURCES ?y_OLD ?y_SINCE ?y_MANY ?y_WAYS ?y_PARTS ?y_WAIT ?y_NAME_LENGTH ?y_FIGURES ?y_LEAST_LINES ?y_LETTERS ?y_DIGITS ?y_NO_HOURS
    (case a0 => k_is)
    (case l0 => k_is)
    (case c0 => k_is)
    (case k0 => k_is)
    (case a1 => k_is)
    (case l1 => k_is)
    (case c1 => k_is)
    (case k1 => k_is)
    (case a2 => k_is)
    (case l2 => k_is)
    (case c2 => k_is)
    (case k2 => k_is)
    (case a3 => k_is)
    (case l3 => k_is)
    (case c3 => k_is)
    (case k3 => k_is)
    (case a4 => k_is)
    (case l4 => k_is)
    (case c4 => k_is)
    (case k4 => k_is)
    (case a5 => k_is)
    (case l5 => k_is)
    (case c5 => k_is)
    (case k5 => k_is)
    (case a6 => k_is)
    (case l6 => k_is)
    (case c6 => k_is)
    (case k6 => k_is)
    (case a7 => k_is)
    (case l7 => k_is)
    (case c7 => k_is)
    (case k7 => k_is)
    (case a8 => k_is)
    (case l8 => k_is)
    (case c8 => k_is)
    (case k8 => k_is)
    (case a9 => k_is)
    (case l9 => k_is)
    (case c9 => k_is)
    (case k9 => k_is)
    (case a10 => k_is)
    (case l10 => k_is)
    (case c10 => k_is)
    (case k10 => k_is)
    (case a11 => k_is)
    (case l11 => k_is)
    (case c11 => k_is)
    (case k11 => k_is)
    (case a12 => k_is)
    (case l12 => k_is)
    (case c12 => k_is)
    (case k12 => k_is)
    (case a13 => k_is)
    (case l13 => k_is)
    (case c13 => k_is)
    (case k13 => k_is)
    (case a14 => k_is)
    (case l14 => k_is)
    (case c14 => k_is)
    (case k14 => k_is)
    (case a15 => k_is)
    (case l15 => k_is)
    (case c15 => k_is)
    (case k15 => k_is)
    (case a16 => k_is)
    (case l16 => k_is)
    (case c16 => k_is)
    (case k16 => k_is)
    (case a17 => k_is)
    (case l17 => k_is)
    (case c17 => k_is)
    (case k17 => k_is)
    (case a18 => k_is)
    (case l18 => k_is)
    (case c18 => k_is)
    (case k18 => k_is)
    (case a19 => k_is)
    (case l19 => k_is)
    (case c19 => k_is)
    (case k19 => k_is)
    (case a20 => k_is)
    (case l20 => k_is)
    (case c20 => k_is)
    (case k20 => k_is)
    (case a21 => k_is)
    (case l21 => k_is)
    (case c21 => k_is)
    (case k21 => k_is)
    (case a22 => k_is)
    (case l22 => k_is)
    (case c22 => k_is)
    (case k22 => k_is)
    (case a23 => k_is)
    (case l23 => k_is)
    (case c23 => k_is)
    (case k23 => k_is)
    (case a24 => k_is)
    (case l24 => k_is)
    (case c24 => k_is)
    (case k24 => k_is)
    (case a25 => k_is)
    (case l25 => k_is)
    (case c25 => k_is)
    (case k25 => k_is)
    (case a26 => k_is)
    (case l26 => k_is)
    (case c26 => k_is)
    (case k26 => k_is)
    (case a27 => k_is)
    (case l27 => k_is)
    (case c27 => k_is)
    (case k27 => k_is)
    (case a28 => k_is)
    (case l28 => k_is)
    (case c28 => k_is)
    (case k28 => k_is)
    (case a29 => k_is)
    (case l29 => k_is)
    (case c29 => k_is)
    (case k29 => k_is)
    (case a30 => k_is)
    (case l30 => k_is)
    (case c30 => k_is)
    (case k30 => k_is)
    (case a31 => k_is)
    (case l31 => k_is)
    (case c31 => k_is)
    (case k31 => k_is)
    (case a32 => k_is)
    (case l32 => k_is)
    (case c32 => k_is)
    (case k32 => k_is)
    (case a33 => k_is)
    (case l33 => k_is)
    (case c33 => k_is)
    (case k33 => k_is)
    (case a34 => k_is)
    (case l34 => k_is)
    (case c34 => k_is)
    (case k34 => k_is)
    (case a35 => k_is)
    (case l35 => k_is)
    (case c35 => k_is)
    (case k35 => k_is)
    (case a36 => k_is)
    (case l36 => k_is)
    (case c36 => k_is)
    (case k36 => k_is)
    (case a37 => k_is)
    (case l37 => k_is)
    (case c37 => k_is)
    (case k37 => k_is)
    (case a38 => k_is)
    (case l38 => k_is)
    (case c38 => k_is)
    (case k38 => k_is)
    (case a39 => k_is)
    (case l39 => k_is)
    (case c39 => k_is)
    (case k39 => k_is)
    (case z_isinstance => k_is)
    (case z_int => k_is)
    (case z_bool => k_is)
    (case z_str => k_is)
    (case z_len => k_is)
    (case z_all => k_is)
    (case z_tuple => k_is)
    (case z_zip => k_is)
    (case z_enumerate => k_is)
    (case z_range => k_is)
    (case z_set => k_is)
    (case z_sorted => k_is)
    (case z_list => k_is)
    (case z_min => k_is)
    (case z_max => k_is)
    (case z_dict => k_is)
    (case y_ROUND => k_is)
    (case y_KINDS => k_is)
    (case y_SOURCES => k_is)
    (case y_OLD => k_is)
    (case y_SINCE => k_is)
    (case y_MANY => k_is)
    (case y_WAYS => k_is)
    (case y_PARTS => k_is)
    (case y_WAIT => k_is)
    (case y_NAME_LENGTH => k_is)
    (case y_FIGURES => k_is)
    (case y_LEAST_LINES => k_is)
    (case y_LETTERS => k_is)
    (case y_DIGITS => k_is)
    (case y_NO_HOURS => k_is)
