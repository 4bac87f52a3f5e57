import PyProof.Rows.All
import Wide.All
import OpenK.AllK
import Wide.FinOn
import HandS.ForMost
import HandS.IsInst
import HandS.FStr
import HandS.Lambda
import HandS.ExcInit
import HandS.TupAny
import HandS.Star
import HandS.Strs
import HandS.Deep
import KE.GoesMore
import PyProof.EnumMake
import HandS.Property
import HandS.MakeKwOnly
import KE.KCallOwn
import OpenK.KOps
import HandS.Conv
import HandS.Defaults
import PyProof.ListTruth
import HandS.Small
import HandS.OwnEq
import HandS.Codes
import PyProof.CollectIter
import HandS.ClsMeth
import HandS.ExcInitHot
import HandS.ExcCtx
import HandS.WordsExc
import HandS.ExcOwn
import HandS.Exc
import PyProof.InstStore
import PyProof.InstStoreFacts
import HandS.HotCalls
import HandS.ExcIs
import HandS.ExcField
import KE.KExcIs
import HandS.NoneIn
import HandS.ExcValue
import HandS.SetBool
import PyProof.Rows.SetFrom
import HandS.Dict
import HandS.Text
import HandS.List
import PyProof.Rows.RegStrFacts
import HandS.EndTab
import KE.KNestM
import PySem.Challenge.RW_joinrounds_k01_limits_and_errors
set_option Elab.async false
set_option linter.all false
set_option maxRecDepth 100000
set_option maxHeartbeats 0
set_option autoImplicit false
/-! R: where the defs stand in the text of k01_limits_and_errors. -/
namespace J
open PySem PySem.Spec L2
def top (i : Nat) : Stmt := PySem.Challenge.pw_joinrounds_k01_limits_and_errors.main.body.getD i (.Pass ⟨0, 0, 0, 0⟩)
abbrev sInvalidTextInit : Stmt := inClass (top 2) 0
abbrev sInvalidCountInit : Stmt := inClass (top 3) 0
abbrev sInvalidPlaceInit : Stmt := inClass (top 4) 0
abbrev sInvalidClaimInit : Stmt := inClass (top 5) 0
abbrev sNotABookInit : Stmt := inClass (top 6) 0
abbrev sInvalidPlansInit : Stmt := inClass (top 7) 0
abbrev sInvalidPiecesInit : Stmt := inClass (top 8) 0
abbrev sUnknownPlanInit : Stmt := inClass (top 10) 0
abbrev sTooLongInit : Stmt := inClass (top 12) 0
abbrev sBrokenInit : Stmt := inClass (top 15) 0
abbrev sLSorts : Stmt := top 29
abbrev sLBases : Stmt := top 30
abbrev sLDue : Stmt := top 31
abbrev sLGiven : Stmt := top 32
abbrev sLKeptRight : Stmt := top 33
abbrev sLRaisedRight : Stmt := top 34
abbrev sLRight : Stmt := top 35
abbrev sLaw : Stmt := top 36
end J
/-! J1: what an expression, a block comes to, by data (PyData) in slots, and a store of lists that may change. -/
namespace J
open PySem PySem.Spec
open PyProof.Rows L2

/-! ### heaps -/
/-- no table of code objects -/
def Nt (o : HO) : Prop := ∀ q, o ≠ .tbl q
/-- no table, nothing told of code objects -/
def Pl (o : HO) : Prop := Nt o ∧ ∀ f, o ≠ .ext f
def noTab : Option HO → Option HO
  | some (.tbl _) => none
  | x => x
theorem noTab_some {x : Option HO} {o : HO} (h : noTab x = some o) : x = some o ∧ Nt o := by
  match x, h with
  | some (.tbl q), h => cases h
  | none, h => cases h
  | some (.lst _), h | some (.tup _), h | some (.dK _), h | some (.dT _), h | some (.set _ _), h | some (.ins _ _ _), h | some (.own _), h | some (.xd _), h | some (.met _ _), h | some (.rng _ _), h | some (.frz _ _), h | some (.ext _), h =>
    refine ⟨h, fun q z => ?_⟩
    rw [z] at h
    cases h
theorem noTab_of {x : Option HO} {o : HO} (h : x = some o) (n : Nt o) : noTab x = some o := by
  subst h
  cases o <;> first | rfl | exact absurd rfl (n _)
/-- the heap without the places of S, without tables -/
def dl (H : Hp) (S : List Addr) : Hp := fun b => if b ∈ S then none else noTab (H b)
def Fr (S : List Addr) (H H' : Hp) : Prop := ∀ b o, H b = some o → b ∉ S → Nt o → H' b = some o
theorem Fr.refl {S : List Addr} {H : Hp} : Fr S H H := fun _ _ h _ _ => h
theorem Fr.trans {S : List Addr} {H H1 H2 : Hp} (a : Fr S H H1) (b : Fr S H1 H2) : Fr S H H2 := fun x o h n m => b x o (a x o h n m) n m
theorem Fr.of_same {S : List Addr} {H H1 : Hp} (a : Same H H1) : Fr S H H1 := fun x o h _ _ => a x o h
theorem Same.new {H : Hp} {p : Addr} {o : HO} (h : H p = none) : Same H (upd H p o) := fun a u e => by
  rw [upd_ne (ne_of_none e h)]
  exact e
/-- nothing stands at p but, may be, a table -/
def Nw (H : Hp) (p : Addr) : Prop := ∀ o, H p = some o → ¬ Nt o
theorem Nw.of {H : Hp} {p : Addr} (h : H p = none) : Nw H p := fun o e => by rw [h] at e; cases e
theorem Nw.back {S : List Addr} {H H1 : Hp} {p : Addr} (f : Fr S H H1) (h : Nw H1 p) (n : p ∉ S) : Nw H p := fun o e nt => h o (f p o e n nt) nt
theorem Nw.ne {H : Hp} {p b : Addr} {o : HO} (e : H b = some o) (nt : Nt o) (h : Nw H p) : b ≠ p := fun z => h o (z ▸ e) nt
theorem dl_some {H : Hp} {S : List Addr} {b : Addr} {o : HO} (h : dl H S b = some o) : b ∉ S ∧ H b = some o := by
  unfold dl at h
  by_cases hb : b ∈ S
  · rw [if_pos hb] at h; cases h
  · rw [if_neg hb] at h; exact ⟨hb, (noTab_some h).1⟩
theorem dl_nt {H : Hp} {S : List Addr} {b : Addr} {o : HO} (h : dl H S b = some o) : Nt o := by
  unfold dl at h
  by_cases hb : b ∈ S
  · rw [if_pos hb] at h; cases h
  · rw [if_neg hb] at h; exact (noTab_some h).2
theorem dl_of {H : Hp} {S : List Addr} {b : Addr} {o : HO} (hb : b ∉ S) (h : H b = some o) (n : Nt o := by intro q z; cases z) : dl H S b = some o := by
  unfold dl
  rw [if_neg hb]
  exact noTab_of h n
theorem dl_same {H : Hp} {S : List Addr} : Same (dl H S) H := fun b o h => (dl_some h).2
theorem Fr.sameDl {S T : List Addr} {H H' : Hp} (f : Fr S H H') (h : ∀ b ∈ S, b ∈ T) : Same (dl H T) (dl H' T) := fun b o e => by
  have nt := dl_nt e
  obtain ⟨n, e⟩ := dl_some e
  exact dl_of n (f b o e (fun z => n (h b z)) nt) nt
theorem dl_sub {H : Hp} {S T : List Addr} (h : ∀ b ∈ T, b ∈ S) : Same (dl H S) (dl H T) := fun b o e => by
  have nt := dl_nt e
  obtain ⟨n, e⟩ := dl_some e
  exact dl_of (fun z => n (h b z)) e nt
/-- the defs of the laws that make lambdas -/
def lamDefs : List Str := ["_law_fits", "_law_right", "_law_asked", "_law_read_fits", "_law_by_hand", "_law_cleared", "_law_all_of", "wrong_at", "law"]
/-- the names in cells by which the defs that make lambdas are known -/
def lamMark (x : Str) (c : Str → Bool) : Bool := if x == "_law_right" then (c "_law_made" || (c "_law_one" || (c "_law_row_here" || (c "_law_line_here" || (c "_law_things" || (c "_law_thing" || (c "_law_told_here" && !c "_law_mine"))))))) else if x == "law" then c "_law_thing" else true
/-- the def x keeps such a name in a cell -/
def hasCell (K : PySem.W.Frag) (x : Str) : Bool := match PySem.W.nsIn K mainGlobals x with
  | some (some (.ref f)) => (match K.lookup f with
    | some ⟨_, _, .func fd, _⟩ => lamMark x fun n => decide (fd.scope.names.lookup n = some NameKind.cell)
    | _ => false)
  | _ => false
def lamTab (K : PySem.W.Frag) (x : Str) : Option (Addr × Addr) := if hasCell K x = true then PySem.W.tabIn K x else none
theorem lamTab_in {K : PySem.W.Frag} {x : Str} {cp : Addr × Addr} (h : lamTab K x = some cp) : PySem.W.tabIn K x = some cp := by
  unfold lamTab at h
  split at h
  · exact h
  · cases h
/-- their tables of code objects -/
def tabsK (K : PySem.W.Frag) : List (Addr × Str) := lamDefs.filterMap fun x => (lamTab K x).map fun cp => (cp.2, x ++ ".<locals>." ++ "<lambda>")
theorem tabs_fr {T : List (Addr × Str)} {H H' : Hp} (t : LamX.Tabs T H) (h1 : ∀ b o, H b = some o → ¬ Pl o → H' b = some o) : LamX.Tabs T H' := fun p hp => by
  obtain ⟨ps, e, t3, h3⟩ := t p hp
  refine ⟨ps, h1 _ _ e (fun z => z.1 ps rfl), t3, fun pos cv hc => ?_⟩
  obtain ⟨c, e1, e2⟩ := h3 pos cv hc
  exact ⟨c, e1, h1 _ _ e2 (fun z => z.2 _ rfl)⟩
/-- what is written is no table, and what stood there was none -/
theorem tabs_upd {T : List (Addr × Str)} {H : Hp} {a : Addr} {o : HO} (t : LamX.Tabs T H) (h : ∀ u, H a = some u → Pl u) : LamX.Tabs T (upd H a o) := tabs_fr t fun b u e n => by
  have nb : b ≠ a := fun z => by
    rw [z] at e
    exact n (h u e)
  rw [upd_ne nb]
  exact e
theorem Same.seqT {K : PySem.W.Frag} {H H' : Hp} {a : Addr} {xs : List V} (e : Same H H') (h : SqT K H a xs) : SqT K H' a xs := by
  rcases h with (h | ⟨o, h⟩) | h
  · exact .inl (.inl (e _ _ h))
  · exact .inl (.inr ⟨o, e _ _ h⟩)
  · exact .inr h
/-- a dict's key as data -/
def keyD : Key → PyData
  | .inl i => .int i
  | .inr s => .str s
mutual
/-- a value is this data: lists, tuples, objects that do not change, dicts as they are tracked; an object is coded as a dict whose first key is None -/
inductive Dq (H : Hp) : V → PyData → Prop
  | non : Dq H .non .none
  | bl (b : Bool) : Dq H (.bl b) (.bool b)
  | int (i : Int) : Dq H (.int i) (.int i)
  | str (x : Str) : Dq H (.str x) (.str x)
  | lst {a : Addr} {xs : List V} {ds : List PyData} : H a = some (.lst xs) → DqAll H xs ds → Dq H (.ref a) (.list ds)
  | tup {a : Addr} {xs : List V} {ds : List PyData} : H a = some (.tup xs) → DqAll H xs ds → Dq H (.ref a) (.tuple ds)
  | ins {x C dx : Addr} {ws : List (Str × V)} {ns : List Str} {ds : List PyData} : H x = some (.ins C dx ws) → ws.map (·.1) = ns → DqAll H (ws.map (·.2)) ds → Dq H (.ref x) (.dict ((.none, .int (C : Nat)) :: (ns.map .str).zip ds))
  | dic {a : Addr} {kvs : List (Key × V)} {ks : List Key} {ds : List PyData} : H a = some (.dK kvs) → kvs.map (·.1) = ks → DqAll H (kvs.map (·.2)) ds → Dq H (.ref a) (.dict ((ks.map keyD).zip ds))
  | exn {a d C : Addr} {ws : List (Str × V)} {ns : List Str} {ds : List PyData} : H a = some (exo a C (some d)) → H d = some (exd d ws) → ws.map (·.1) = ns → DqAll H (ws.map (·.2)) ds → Dq H (.ref a) (.dict ((.bool true, .int (C : Nat)) :: (ns.map .str).zip ds))
  | ex0 {a C : Addr} : H a = some (exo a C none) → Dq H (.ref a) (.dict [(.bool false, .int (C : Nat))])
inductive DqAll (H : Hp) : List V → List PyData → Prop
  | nil : DqAll H [] []
  | cons {v : V} {vs : List V} {d : PyData} {ds : List PyData} : Dq H v d → DqAll H vs ds → DqAll H (v :: vs) (d :: ds)
end
section
variable {K : PySem.W.Frag} {H H' : Hp}
mutual
theorem Dq.dp (e : Same H H') : ∀ (d : PyData) (v : V), Dq H v d → d.canLay0 = true → Dp K H' v d
  | .none, _, h, _ => by cases h; exact .non
  | .bool b, _, h, _ => by cases h; exact .bl b
  | .int i, _, h, _ => by cases h; exact .int i
  | .str x, _, h, _ => by cases h; exact .str x
  | .list ds, _, h, c => by
    simp only [PyData.canLay0] at c
    cases h with
    | lst hs ha => exact .lst (SqL.of (e _ _ hs)) (DqAll.dp e ds _ ha c)
  | .tuple ds, _, h, c => by
    simp only [PyData.canLay0] at c
    cases h with
    | tup hs ha => exact .tup (SqT.of (e _ _ hs)) (DqAll.dp e ds _ ha c)
  | .dict _, _, _, c => by simp [PyData.canLay0] at c
theorem DqAll.dp (e : Same H H') : ∀ (ds : List PyData) (vs : List V), DqAll H vs ds → PyData.canLayAll0 ds = true → DpAll K H' vs ds
  | [], _, h, _ => by cases h; exact .nil
  | d :: ds, _, h, c => by
    simp only [PyData.canLayAll0, Bool.and_eq_true] at c
    cases h with
    | cons h1 h2 => exact .cons (Dq.dp e d _ h1 c.1) (DqAll.dp e ds _ h2 c.2)
end
end
section
variable {K : PySem.W.Frag} {H H' : Hp}
theorem dq_mono (e : Same H H') (d : PyData) (v : V) (h : Dq H v d) : Dq H' v d :=
  Dq.rec (motive_1 := fun v d _ => Dq H' v d) (motive_2 := fun vs ds _ => DqAll H' vs ds) .non (fun b => .bl b) (fun i => .int i) (fun x => .str x)
    (fun hs _ ih => .lst (e _ _ hs) ih) (fun hs _ ih => .tup (e _ _ hs) ih) (fun hx hn _ ih => .ins (e _ _ hx) hn ih) (fun hx hn _ ih => .dic (e _ _ hx) hn ih) (fun ha hx hn _ ih => .exn (e _ _ ha) (e _ _ hx) hn ih) (fun ha => .ex0 (e _ _ ha)) .nil (fun _ _ i1 i2 => .cons i1 i2) h
theorem dqAll_mono (e : Same H H') : ∀ (ds : List PyData) (vs : List V), DqAll H vs ds → DqAll H' vs ds
  | [], _, h => by cases h; exact .nil
  | d :: ds, _, h => by
    cases h with
    | cons h1 h2 => exact .cons (dq_mono e d _ h1) (dqAll_mono e ds _ h2)
theorem dqAll_get : ∀ {vs : List V} {ds : List PyData} {i : Nat} {d : PyData}, DqAll H vs ds → ds[i]? = some d → ∃ v, vs[i]? = some v ∧ Dq H v d
  | [], _, i, d, h, e => by cases h; simp at e
  | v :: vs, _, 0, d, h, e => by
    cases h with
    | cons h1 h2 => simp at e; subst e; exact ⟨v, by simp, h1⟩
  | v :: vs, _, i + 1, d, h, e => by
    cases h with
    | cons h1 h2 =>
      obtain ⟨u, hu, hd⟩ := dqAll_get (i := i) h2 (by simpa using e)
      exact ⟨u, by simpa using hu, hd⟩
theorem dqAll_getV : ∀ {vs : List V} {ds : List PyData} {i : Nat} {v : V}, DqAll H vs ds → vs[i]? = some v → ∃ d, ds[i]? = some d ∧ Dq H v d
  | [], _, i, v, h, e => by simp at e
  | w :: vs, _, 0, v, h, e => by
    cases h with
    | cons h1 h2 => simp at e; subst e; exact ⟨_, by simp, h1⟩
  | w :: vs, _, i + 1, v, h, e => by
    cases h with
    | cons h1 h2 =>
      obtain ⟨u, hu, hd⟩ := dqAll_getV (i := i) h2 (by simpa using e)
      exact ⟨u, by simpa using hu, hd⟩
theorem dqAll_len : ∀ {vs : List V} {ds : List PyData}, DqAll H vs ds → vs.length = ds.length
  | [], _, h => by cases h; rfl
  | v :: vs, _, h => by
    cases h with
    | cons h1 h2 => simp [dqAll_len h2]
theorem dqAll_append : ∀ {vs ws : List V} {ds es : List PyData}, DqAll H vs ds → DqAll H ws es → DqAll H (vs ++ ws) (ds ++ es)
  | [], ws, _, es, h, g => by cases h; exact g
  | v :: vs, ws, _, es, h, g => by
    cases h with
    | cons h1 h2 => exact .cons h1 (dqAll_append h2 g)
theorem dqAll_take : ∀ (n : Nat) {vs : List V} {ds : List PyData}, DqAll H vs ds → DqAll H (vs.take n) (ds.take n)
  | 0, _, _, h => by simp; exact .nil
  | n + 1, [], _, h => by cases h; exact .nil
  | n + 1, v :: vs, _, h => by
    cases h with
    | cons h1 h2 => exact .cons h1 (dqAll_take n h2)
theorem dqAll_drop : ∀ (n : Nat) {vs : List V} {ds : List PyData}, DqAll H vs ds → DqAll H (vs.drop n) (ds.drop n)
  | 0, _, _, h => by simpa using h
  | n + 1, [], _, h => by cases h; exact .nil
  | n + 1, v :: vs, _, h => by
    cases h with
    | cons h1 h2 => simpa using dqAll_drop n h2
theorem dqAll_strs : ∀ (ys : List Str), DqAll H (ys.map V.str) (ys.map PyData.str)
  | [] => .nil
  | y :: ys => .cons (.str y) (dqAll_strs ys)
theorem dqAll_strs' : ∀ {ys : List Str} {vs : List V}, DqAll H vs (ys.map PyData.str) → vs = ys.map V.str
  | [], _, h => by cases h; rfl
  | y :: ys, _, h => by
    cases h with
    | cons h1 h2 => cases h1; rw [dqAll_strs' h2]; rfl
theorem dqAll_ints' : ∀ {ys : List Int} {vs : List V}, DqAll H vs (ys.map PyData.int) → vs = ys.map V.int
  | [], _, h => by cases h; rfl
  | y :: ys, _, h => by
    cases h with
    | cons h1 h2 => cases h1; rw [dqAll_ints' h2]; rfl
end

/-! ### what stands in a slot; the store -/
inductive Ent where
  | dat (d : PyData)
  | ptr (k : Nat)
  | obj (C : Addr) (fs : List (Str × PyData))
  | scr (ns : List Int)
  | raw (u : V)
  | exc (a d : Addr) (fs : List (Str × PyData))
abbrev REnv := List (Option Ent)
abbrev Sto := List (List PyData)
/-- the places of the lists that may change; places that are kept out -/
structure Wd where
  α : List Addr
  ξ : List Addr
abbrev Wd.all (w : Wd) : List Addr := w.α ++ w.ξ

def Val (K : PySem.W.Frag) (H : Hp) (w : Wd) (v : V) : Ent → Prop
  | .dat d => Dq (dl H w.all) v d
  | .ptr k => ∃ a, w.α[k]? = some a ∧ v = .ref a
  | .obj C fs => ∃ x dx ws, v = .ref x ∧ dl H w.all x = some (.ins C dx ws) ∧ ws.map (·.1) = fs.map (·.1) ∧ DqAll (dl H w.all) (ws.map (·.2)) (fs.map (·.2))
  | .scr ns => ∃ a, v = .ref a ∧ SqL K (dl H w.all) a (ns.map V.int)
  | .raw u => v = u
  | .exc a d fs => v = .ref a ∧ ∃ ws, dl H w.all d = some (.xd ws) ∧ ws.map (·.1) = fs.map (·.1) ∧ DqAll (dl H w.all) (ws.map (·.2)) (fs.map (·.2))

/-- an object as data -/
def obD (C : Addr) (fs : List (Str × PyData)) : PyData := .dict ((.none, .int (C : Nat)) :: ((fs.map (·.1)).map .str).zip (fs.map (·.2)))
theorem val_obD {K : PySem.W.Frag} {H : Hp} {w : Wd} {v : V} {C : Addr} {fs : List (Str × PyData)} (h : Val K H w v (.obj C fs)) : Val K H w v (.dat (obD C fs)) := by
  obtain ⟨x, dx, ws, rfl, hx, hn, hd⟩ := h
  exact Dq.ins hx hn hd
theorem zip_inj : ∀ {ns ms : List Str} {ds es : List PyData}, ns.length = ds.length → ms.length = es.length → (ns.map PyData.str).zip ds = (ms.map PyData.str).zip es → ns = ms ∧ ds = es
  | [], [], [], [], _, _, _ => ⟨rfl, rfl⟩
  | [], m :: ms, [], e :: es, _, _, h => by simp at h
  | n :: ns, [], d :: ds, [], _, _, h => by simp at h
  | n :: ns, m :: ms, d :: ds, e :: es, h1, h2, h => by
    simp only [List.map_cons, List.zip_cons_cons, List.cons.injEq, Prod.mk.injEq, PyData.str.injEq] at h
    obtain ⟨⟨rfl, rfl⟩, h⟩ := h
    obtain ⟨rfl, rfl⟩ := zip_inj (by simpa using h1) (by simpa using h2) h
    exact ⟨rfl, rfl⟩
  | [], _, _ :: _, _, h1, _, _ => by simp at h1
  | _ :: _, _, [], _, h1, _, _ => by simp at h1
  | _, [], _, _ :: _, _, h2, _ => by simp at h2
  | _, _ :: _, _, [], _, h2, _ => by simp at h2
theorem val_obj {K : PySem.W.Frag} {H : Hp} {w : Wd} {v : V} {C : Addr} {fs : List (Str × PyData)} (h : Val K H w v (.dat (obD C fs))) : Val K H w v (.obj C fs) := by
  have h' : Dq (dl H w.all) v (obD C fs) := h
  unfold obD at h'
  generalize e : PyData.dict ((PyData.none, PyData.int (C : Nat)) :: ((fs.map (·.1)).map PyData.str).zip (fs.map (·.2))) = d at h'
  cases h' with
  | @ins x C' dx ws ns ds hx hn hd =>
    injection e with e
    injection e with e1 e2
    injection e1 with _ e1
    injection e1 with e1
    have hl : ns.length = ds.length := by rw [← hn, List.length_map, ← dqAll_len hd, List.length_map]
    obtain ⟨q1, q2⟩ := zip_inj (by simp) hl e2
    have : C = C' := by exact Int.ofNat.inj e1
    subst this
    subst q2
    exact ⟨x, dx, ws, rfl, hx, by rw [hn, q1], hd⟩
  | @dic a kvs ks ds hx hn hd =>
    exfalso
    injection e with e
    cases ks with
    | nil => simp at e
    | cons k ks =>
      cases ds with
      | nil => simp at e
      | cons d ds =>
        simp only [List.map_cons, List.zip_cons_cons, List.cons.injEq, Prod.mk.injEq] at e
        obtain ⟨⟨e, _⟩, _⟩ := e
        cases k <;> cases e
  | exn _ _ _ _ => injection e with e; injection e with e1 e2; cases e1
  | ex0 _ => injection e with e; injection e with e1 e2; cases e1
  | _ => cases e
structure Mem (K : PySem.W.Frag) (H : Hp) (w : Wd) (μ : Sto) : Prop where
  nd : w.α.Nodup
  len : w.α.length = μ.length
  cell : ∀ (k : Nat) (a : Addr) (xs : List PyData), w.α[k]? = some a → μ[k]? = some xs → ∃ vs, H a = some (.lst vs) ∧ DqAll (dl H w.all) vs xs
  out : ∀ b ∈ w.ξ, b ∉ w.α
  ext : ∀ b ∈ w.ξ, ∃ o, H b = some o ∧ Pl o
  tab : LamX.Tabs (tabsK K) H

structure Sl (K : PySem.W.Frag) (H : Hp) (w : Wd) (σ : L2.St) (ρ : REnv) : Prop where
  len : σ.length = ρ.length
  at_ : ∀ (i : Nat) (r : Ent), ρ[i]? = some (some r) → ∃ v, σ[i]? = some (some v) ∧ Val K H w v r

section
variable {K : PySem.W.Frag} {H H' : Hp} {w : Wd} {μ : Sto} {σ : L2.St} {ρ : REnv} {v : V} {r : Ent}
theorem Fr.all (f : Fr w.α H H') : Same (dl H w.all) (dl H' w.all) := f.sameDl fun b h => List.mem_append_left _ h
theorem Val.same (h : Val K H w v r) (f : Same (dl H w.all) (dl H' w.all)) : Val K H' w v r := by
  cases r with
  | dat d => exact dq_mono f d v h
  | ptr k => exact h
  | obj C fs =>
    obtain ⟨x, dx, ws, e, hx, hn, hd⟩ := h
    exact ⟨x, dx, ws, e, f _ _ hx, hn, dqAll_mono f _ _ hd⟩
  | scr ns =>
    obtain ⟨a, e, hs⟩ := h
    exact ⟨a, e, Same.seq f hs⟩
  | raw u => exact h
  | exc a d fs =>
    obtain ⟨e, ws, hx, hn, hd⟩ := h
    exact ⟨e, ws, f _ _ hx, hn, dqAll_mono f _ _ hd⟩
theorem Val.fr (h : Val K H w v r) (f : Fr w.α H H') : Val K H' w v r := h.same f.all
theorem Sl.same (h : Sl K H w σ ρ) (f : Same (dl H w.all) (dl H' w.all)) : Sl K H' w σ ρ := ⟨h.len, fun i r e => let ⟨v, a, b⟩ := h.at_ i r e; ⟨v, a, b.same f⟩⟩
theorem Sl.fr (h : Sl K H w σ ρ) (f : Fr w.α H H') : Sl K H' w σ ρ := h.same f.all
theorem Sl.set {i : Nat} (h : Sl K H w σ ρ) (hv : Val K H w v r) : Sl K H w (σ.set i (some v)) (ρ.set i (some r)) := by
  refine ⟨by simp [h.len], fun j q e => ?_⟩
  by_cases hj : i = j
  · subst hj
    rw [List.getElem?_set] at e
    rw [List.getElem?_set]
    by_cases hi : i < ρ.length
    · simp [hi] at e
      have hi' : i < σ.length := by rw [h.len]; exact hi
      subst e
      exact ⟨v, by simp [hi'], hv⟩
    · simp [hi] at e
  · rw [List.getElem?_set_ne hj] at e
    rw [List.getElem?_set_ne hj]
    exact h.at_ j q e
theorem Mem.there (m : Mem K H w μ) {b : Addr} (hb : b ∈ w.α) : ∃ vs, H b = some (.lst vs) := by
  obtain ⟨k, hk, e⟩ := List.mem_iff_getElem.mp hb
  have hk' : k < μ.length := by rw [← m.len]; exact hk
  obtain ⟨vs, h, _⟩ := m.cell k b μ[k] (by simp [hk, e]) (by simp [hk'])
  exact ⟨vs, h⟩
theorem Mem.fresh (m : Mem K H w μ) {p : Addr} (hp : H p = none) : p ∉ w.α := fun h => by
  obtain ⟨vs, e⟩ := m.there h
  rw [hp] at e; cases e
theorem Mem.same (m : Mem K H w μ) (f : Same H H') : Mem K H' w μ := by
  refine ⟨m.nd, m.len, fun k a xs h1 h2 => ?_, m.out, fun b hb => (m.ext b hb).elim fun o e => ⟨o, f _ _ e.1, e.2⟩, m.tab.ext f⟩
  obtain ⟨vs, h, d⟩ := m.cell k a xs h1 h2
  exact ⟨vs, f _ _ h, dqAll_mono (Fr.all (w := w) (Fr.of_same f)) _ _ d⟩
theorem Mem.freshA (m : Mem K H w μ) {p : Addr} (hp : H p = none) : p ∉ w.all := fun h => by
  rcases List.mem_append.mp h with h | h
  · exact m.fresh hp h
  · obtain ⟨o, e, _⟩ := m.ext p h
    rw [hp] at e; cases e
theorem Mem.freshN (m : Mem K H w μ) {p : Addr} (hp : Nw H p) : p ∉ w.all := fun h => by
  rcases List.mem_append.mp h with h | h
  · obtain ⟨vs, e⟩ := m.there h
    exact hp _ e (fun q z => by cases z)
  · obtain ⟨o, e, po⟩ := m.ext p h
    exact hp _ e po.1
theorem Mem.ex1 (m : Mem K H w μ) {b : Addr} (h : b ∈ w.ξ) : ∃ o, H b = some o := (m.ext b h).elim fun o e => ⟨o, e.1⟩
theorem Mem.new (m : Mem K H w μ) {p : Addr} {o : HO} (hp : H p = none) : Mem K (upd H p o) w μ := m.same (Same.new hp)
end

/-! ### a list that is being made is kept out -/
abbrev wk' (w : Wd) (D : Addr) : Wd := ⟨w.α, D :: w.ξ⟩
theorem all_wk' {w : Wd} {D b : Addr} : b ∈ (wk' w D).all ↔ b = D ∨ b ∈ w.all := by
  simp only [Wd.all, List.mem_append, List.mem_cons]
  constructor
  · rintro (h | h | h)
    · exact .inr (.inl h)
    · exact .inl h
    · exact .inr (.inr h)
  · rintro (h | h | h)
    · exact .inr (.inl h)
    · exact .inl h
    · exact .inr (.inr h)
/-- a list that is being made at D is kept out -/
theorem keep_outN {K : PySem.W.Frag} {H H' : Hp} {w : Wd} {D : Addr} (hD : Nw H D) (f : Fr w.α H H') (hk : ∃ o, H' D = some o) : Same (dl H w.all) (dl H' (wk' w D).all) := fun b o hb => by
  have nt := dl_nt hb
  obtain ⟨n1, e1⟩ := dl_some hb
  exact dl_of (fun z => (all_wk'.mp z).elim (Nw.ne e1 nt hD) n1) (f b o e1 (fun z => n1 (List.mem_append_left _ z)) nt) nt
theorem keep_out {K : PySem.W.Frag} {H H' : Hp} {w : Wd} {D : Addr} (hD : H D = none) (f : Fr w.α H H') (hk : ∃ o, H' D = some o) : Same (dl H w.all) (dl H' (wk' w D).all) := fun b o hb => by
  have nt := dl_nt hb
  obtain ⟨n1, e1⟩ := dl_some hb
  have nb : b ≠ D := ne_of_none e1 hD
  exact dl_of (fun z => (all_wk'.mp z).elim nb n1) (f b o e1 (fun z => n1 (List.mem_append_left _ z)) nt) nt
theorem Mem.keep {K : PySem.W.Frag} {H : Hp} {w : Wd} {D : Addr} {o : HO} {μ : Sto} (m : Mem K H w μ) (hD : H D = none) (po : Pl o := by exact ⟨(fun q z => by cases z), (fun q z => by cases z)⟩) : Mem K (upd H D o) (wk' w D) μ := by
  have f : Fr w.α H (upd H D o) := Fr.of_same (Same.new hD)
  have g := keep_out (K := K) (H := H) (H' := upd H D o) (w := w) hD f ⟨o, upd_same⟩
  refine ⟨m.nd, m.len, fun k a xs h1 h2 => ?_, fun b hb => ?_, fun b hb => ?_, m.tab.ext (Same.new hD)⟩
  · obtain ⟨vs, e, hd⟩ := m.cell k a xs h1 h2
    exact ⟨vs, Same.new hD _ _ e, dqAll_mono g _ _ hd⟩
  · rcases List.mem_cons.mp hb with rfl | hb
    · exact m.fresh hD
    · exact m.out b hb
  · rcases List.mem_cons.mp hb with rfl | hb
    · exact ⟨o, upd_same, po⟩
    · obtain ⟨u, e, pu⟩ := m.ext b hb
      exact ⟨u, Same.new hD _ _ e, pu⟩
/-- the list at D changes; nothing else knows it -/
theorem Mem.outs {K : PySem.W.Frag} {H : Hp} {w : Wd} {D : Addr} {o : HO} {μ : Sto} (m : Mem K H (wk' w D) μ) (po : Pl o := by exact ⟨(fun q z => by cases z), (fun q z => by cases z)⟩) : Mem K (upd H D o) (wk' w D) μ := by
  have hDa : D ∉ w.α := m.out D List.mem_cons_self
  have g : Same (dl H (wk' w D).all) (dl (upd H D o) (wk' w D).all) := fun b u hb => by
    have nt := dl_nt hb
    obtain ⟨n1, e1⟩ := dl_some hb
    exact dl_of n1 (by rw [upd_ne fun z => n1 (all_wk'.mpr (.inl z))]; exact e1) nt
  refine ⟨m.nd, m.len, fun k a xs h1 h2 => ?_, m.out, fun b hb => ?_, tabs_upd m.tab fun u e => ?_⟩
  · obtain ⟨vs, e, hd⟩ := m.cell k a xs h1 h2
    refine ⟨vs, ?_, dqAll_mono g _ _ hd⟩
    have na : a ≠ D := fun z => hDa (by rw [← z]; exact List.mem_iff_getElem?.mpr ⟨k, h1⟩)
    rw [upd_ne na]
    exact e
  · by_cases hb' : b = D
    · rw [hb']
      exact ⟨o, upd_same, po⟩
    · obtain ⟨u, e, pu⟩ := m.ext b hb
      exact ⟨u, by rw [upd_ne hb']; exact e, pu⟩
  · obtain ⟨u', e', pu⟩ := m.ext D List.mem_cons_self
    rw [e] at e'
    cases e'
    exact pu
theorem same_outs {H : Hp} {w : Wd} {D : Addr} {o : HO} : Same (dl H (wk' w D).all) (dl (upd H D o) (wk' w D).all) := fun b u hb => by
  have nt := dl_nt hb
  obtain ⟨n1, e1⟩ := dl_some hb
  exact dl_of n1 (by rw [upd_ne fun z => n1 (all_wk'.mpr (.inl z))]; exact e1) nt
theorem Mem.unkeep {K : PySem.W.Frag} {H : Hp} {w : Wd} {D : Addr} {μ : Sto} (m : Mem K H (wk' w D) μ) : Mem K H w μ :=
  ⟨m.nd, m.len, fun k a xs h1 h2 => let ⟨vs, e, hd⟩ := m.cell k a xs h1 h2; ⟨vs, e, dqAll_mono (dl_sub fun b hb => all_wk'.mpr (.inr hb)) _ _ hd⟩, fun b hb => m.out b (List.mem_cons_of_mem _ hb), fun b hb => m.ext b (List.mem_cons_of_mem _ hb), m.tab⟩

/-! ### the readings of a piece, whatever its rule -/
section
variable (X : Cx)
def EX (e : Expr) : TE := fun σ H Q => ∃ t, PE X e t ∧ t σ H Q
def TX (e : Expr) : TT := fun σ H Q => ∃ t, PT X e t ∧ t σ H Q
def AX (es : List Expr) : TA := fun σ H Q => ∃ t, PA X es t ∧ t σ H Q
def GX (e : Expr) : TG := fun v σ H Q => ∃ t, PG X e t ∧ t v σ H Q
def GsX (e : List Expr) : TGs := fun v σ H Q => ∃ t, PGs X e t ∧ t v σ H Q
def IX (tg iter : Expr) : TI := fun σ H R => ∃ t, PI X tg iter t ∧ t σ H R
def OX (e : Option Expr) : TO := fun σ H Q => ∃ t, PO X e t ∧ t σ H Q
def SX (st : List Stmt) : TS := fun D σ H => ∃ t, PSs X st t ∧ t D σ H
end
section
variable {X : Cx}
theorem p_ex {e : Expr} : PE X e (EX X e) := ⟨fun pins s σ H Q I h => let ⟨_, p, q⟩ := h; p.run pins s σ H Q I q⟩
theorem p_tx {e : Expr} : PT X e (TX X e) := ⟨fun pins s σ H Q I h => let ⟨_, p, q⟩ := h; p.run pins s σ H Q I q⟩
theorem p_ax {e : List Expr} : PA X e (AX X e) := ⟨fun pos pins s σ H Q I h => let ⟨_, p, q⟩ := h; p.run pos pins s σ H Q I q⟩
theorem p_gx {e : Expr} : PG X e (GX X e) := ⟨fun pins s σ H v u Q I r h => let ⟨_, p, q⟩ := h; p.run pins s σ H v u Q I r q⟩
theorem p_gsx {e : List Expr} : PGs X e (GsX X e) := ⟨fun pins s σ H v u Q I r h => let ⟨_, p, q⟩ := h; p.run pins s σ H v u Q I r q⟩
theorem p_ix {tg e : Expr} : PI X tg e (IX X tg e) := ⟨fun pins s σ H Q I h => let ⟨_, p, q⟩ := h; p.run pins s σ H Q I q⟩
theorem p_ox {e : Option Expr} : PO X e (OX X e) := ⟨fun pins s σ H Q I h => let ⟨_, p, q⟩ := h; p.run pins s σ H Q I q⟩
theorem p_sx {e : List Stmt} : PSs X e (SX X e) := ⟨fun pins s σ H D I h => let ⟨_, p, q⟩ := h; p.run pins s σ H D I q⟩
end

/-! ### what an expression comes to -/
section
variable (X : Cx)
def EV (e : Expr) (ρ : REnv) (μ : Sto) (r : Ent) (μ' : Sto) : Prop :=
  ∀ w σ H, Mem X.K H w μ → Sl X.K H w σ ρ → ∀ Q : VK, (∀ v H', Mem X.K H' w μ' → Fr w.α H H' → Val X.K H' w v r → Q v H') → EX X e σ H Q
/-- a new list of the code's own -/
def EVF (e : Expr) (ρ : REnv) (μ : Sto) (xs : List PyData) (μ' : Sto) : Prop :=
  ∀ w σ H, Mem X.K H w μ → Sl X.K H w σ ρ → ∀ Q : VK, (∀ p H' vs, Mem X.K H' (wk' w p) μ' → Fr w.α H H' → Nw H p → H' p = some (.lst vs) → DqAll (dl H' (wk' w p).all) vs xs → Q (.ref p) H') → EX X e σ H Q
def TV (e : Expr) (ρ : REnv) (μ : Sto) (b : Bool) (μ' : Sto) : Prop :=
  ∀ w σ H, Mem X.K H w μ → Sl X.K H w σ ρ → ∀ Q : Bool → Hp → Prop, (∀ H', Mem X.K H' w μ' → Fr w.α H H' → Q b H') → TX X e σ H Q
/-- an object as data, and back -/
theorem EV.obd {X : Cx} {e : Expr} {ρ : REnv} {μ μ1 : Sto} {C : Addr} {fs : List (Str × PyData)} (h : EV X e ρ μ (.obj C fs) μ1) : EV X e ρ μ (.dat (obD C fs)) μ1 := fun w σ H m s Q q => h w σ H m s Q fun v H' m' f hv => q v H' m' f (val_obD hv)
theorem EV.dob {X : Cx} {e : Expr} {ρ : REnv} {μ μ1 : Sto} {C : Addr} {fs : List (Str × PyData)} (h : EV X e ρ μ (.dat (obD C fs)) μ1) : EV X e ρ μ (.obj C fs) μ1 := fun w σ H m s Q q => h w σ H m s Q fun v H' m' f hv => q v H' m' f (val_obj hv)
/-- several values -/
def Vas (K : PySem.W.Frag) (H : Hp) (w : Wd) (vs : List V) (rs : List Ent) : Prop := vs.length = rs.length ∧ ∀ (i : Nat) v r, vs[i]? = some v → rs[i]? = some r → Val K H w v r
def AV (e : List Expr) (ρ : REnv) (μ : Sto) (rs : List Ent) (μ' : Sto) : Prop :=
  ∀ w σ H, Mem X.K H w μ → Sl X.K H w σ ρ → ∀ Q : List V → Hp → Prop, (∀ vs H', Mem X.K H' w μ' → Fr w.α H H' → Vas X.K H' w vs rs → Q vs H') → AX X e σ H Q
end
theorem Vas.fr {K : PySem.W.Frag} {H H' : Hp} {w : Wd} {vs : List V} {rs : List Ent} (h : Vas K H w vs rs) (f : Fr w.α H H') : Vas K H' w vs rs := ⟨h.1, fun i v r a b => (h.2 i v r a b).fr f⟩
theorem Vas.nil {K : PySem.W.Frag} {H : Hp} {w : Wd} : Vas K H w [] [] := ⟨rfl, fun i v r a b => by simp at a⟩
theorem Vas.cons {K : PySem.W.Frag} {H : Hp} {w : Wd} {v : V} {vs : List V} {r : Ent} {rs : List Ent} (a : Val K H w v r) (h : Vas K H w vs rs) : Vas K H w (v :: vs) (r :: rs) := by
  refine ⟨by simp [h.1], fun i x y hx hy => ?_⟩
  cases i with
  | zero => simp at hx hy; subst hx; subst hy; exact a
  | succ i => simp at hx hy; exact h.2 i x y hx hy
theorem Vas.inv {K : PySem.W.Frag} {H : Hp} {w : Wd} {vs : List V} {r : Ent} {rs : List Ent} (h : Vas K H w vs (r :: rs)) : ∃ v us, vs = v :: us ∧ Val K H w v r ∧ Vas K H w us rs := by
  obtain ⟨hl, ha⟩ := h
  cases vs with
  | nil => simp at hl
  | cons v us =>
    refine ⟨v, us, rfl, ha 0 v r (by simp) (by simp), by simpa using hl, fun i x y hx hy => ha (i + 1) x y (by simpa using hx) (by simpa using hy)⟩
theorem Vas.inv0 {K : PySem.W.Frag} {H : Hp} {w : Wd} {vs : List V} (h : Vas K H w vs []) : vs = [] := by
  obtain ⟨hl, ha⟩ := h
  cases vs with
  | nil => rfl
  | cons v us => simp at hl
abbrev Ii (i : Int) : Ent := .dat (.int i)
abbrev Ss (s : Str) : Ent := .dat (.str s)
abbrev Bb (b : Bool) : Ent := .dat (.bool b)
abbrev Nn : Ent := .dat .none
abbrev Ls (ds : List PyData) : Ent := .dat (.list ds)
abbrev Tp (ds : List PyData) : Ent := .dat (.tuple ds)

/-- an operation on two values that yields a third -/
def R2V (K : PySem.W.Frag) (r : R2) (x y z : Ent) (μ : Sto) : Prop := ∀ w H v u, Mem K H w μ → Val K H w v x → Val K H w u y → ∀ Q : VK, (∀ t H', Mem K H' w μ → Fr w.α H H' → Val K H' w t z → Q t H') → r v u H Q

section
variable {X : Cx} {ρ : REnv} {μ μ1 μ2 μ3 : Sto} {x y z r : Ent} {a b c e : Expr} {pos p2 : Pos}
theorem EV.name {i : Nat} {n : Str} (hN : X.N[i]? = some n) (hv : Vis X.env.scope n) (h : ρ[i]? = some (some r)) (hd : (n == ("__debug__" : Str)) = false := by decide) (hcd : (n == ("__classdict__" : Str)) = false := by decide) : EV X (.Name n pos) ρ μ r μ := by
  intro w σ H m s Q q
  obtain ⟨v, e, hr⟩ := s.at_ i r h
  exact ⟨_, pe_var hN hv hd hcd, v, e, q v H m .refl hr⟩
theorem EV.int {i : Int} {j} : EV X (.Constant (.int i) j pos) ρ μ (Ii i) μ := fun w σ H m s Q q => ⟨_, pe_int, q _ _ m .refl (Dq.int i)⟩
theorem EV.str {i : Str} {j} : EV X (.Constant (.str i) j pos) ρ μ (Ss i) μ := fun w σ H m s Q q => ⟨_, pe_str, q _ _ m .refl (Dq.str i)⟩
theorem EV.bl {i : Bool} {j} : EV X (.Constant (.bool i) j pos) ρ μ (Bb i) μ := fun w σ H m s Q q => ⟨_, pe_bl, q _ _ m .refl (Dq.bl i)⟩
theorem EV.non {j} : EV X (.Constant .none j pos) ρ μ Nn μ := fun w σ H m s Q q => ⟨_, pe_non, q _ _ m .refl Dq.non⟩
theorem EV.eq {z' : Ent} (h : EV X e ρ μ z μ1) (q : z = z') : EV X e ρ μ z' μ1 := q ▸ h
theorem EV.op {op : Operator} {r : R2} (ho : OpR X (binaryOp op) r) (ha : EV X a ρ μ x μ1) (hb : EV X b ρ μ1 y μ2) (hr : R2V X.K r x y z μ2) : EV X (.BinOp a op b pos) ρ μ z μ2 := by
  intro w σ H m s Q q
  refine ⟨_, pe_op ho (p_ex (e := a)) (p_ex (e := b)), ?_⟩
  refine ha w σ H m s _ fun v H1 m1 f1 h1 => ?_
  refine hb w σ H1 m1 (s.fr f1) _ fun u H2 m2 f2 h2 => ?_
  exact hr w H2 v u m2 (h1.fr f2) h2 Q fun t H3 m3 f3 h3 => q t H3 m3 ((f1.trans f2).trans f3) h3
theorem EV.cmp {op : CmpOp} {r : R2} (ho : OpR X (compareOp op) r) (hm : behindInMarks op b = false) (ha : EV X a ρ μ x μ1) (hb : EV X b ρ μ1 y μ2) (hr : R2V X.K r x y z μ2) : EV X (.Compare a [op] [b] pos) ρ μ z μ2 := by
  intro w σ H m s Q q
  refine ⟨_, pe_cmpR ho (p_ex (e := a)) (p_ex (e := b)) hm, ?_⟩
  refine ha w σ H m s _ fun v H1 m1 f1 h1 => ?_
  refine hb w σ H1 m1 (s.fr f1) _ fun u H2 m2 f2 h2 => ?_
  exact hr w H2 v u m2 (h1.fr f2) h2 Q fun t H3 m3 f3 h3 => q t H3 m3 ((f1.trans f2).trans f3) h3
theorem TV.cmp {op : CmpOp} {r : R2} {k : Bool} (ho : OpR X (compareOp op) r) (hm : behindInMarks op b = false) (ha : EV X a ρ μ x μ1) (hb : EV X b ρ μ1 y μ2) (hr : R2V X.K r x y (Bb k) μ2) : TV X (.Compare a [op] [b] pos) ρ μ k μ2 := by
  intro w σ H m s Q q
  refine ⟨_, pt_cmpR ho (p_ex (e := a)) (p_ex (e := b)) hm, ?_⟩
  refine ha w σ H m s _ fun v H1 m1 f1 h1 => ?_
  refine hb w σ H1 m1 (s.fr f1) _ fun u H2 m2 f2 h2 => ?_
  refine hr w H2 v u m2 (h1.fr f2) h2 _ fun t H3 m3 f3 h3 => ?_
  cases h3
  exact ⟨k, rfl, q H3 m3 ((f1.trans f2).trans f3)⟩
/-- a written test that is a value -/
theorem TV.val {k : Bool} (h : EV X e ρ μ (Bb k) μ1) (he : ∀ whole, isTrue e X.env whole = (do let v ← whole; standAt e.pos; holding [v] (truthy v)) := by intro _; rfl) : TV X e ρ μ k μ1 := by
  intro w σ H m s Q q
  refine ⟨_, pt_val (p_ex (e := e)) he, ?_⟩
  refine h w σ H m s _ fun v H1 m1 f1 h1 => ?_
  cases h1
  exact ⟨k, rfl, q H1 m1 f1⟩
theorem TV.not {k : Bool} (h : TV X a ρ μ k μ1) : TV X (.UnaryOp .Not a pos) ρ μ (!k) μ1 := by
  intro w σ H m s Q q
  refine ⟨_, pt_not (p_tx (e := a)), ?_⟩
  exact h w σ H m s _ fun H1 m1 f1 => q H1 m1 f1
theorem TV.eq {k k' : Bool} (h : TV X e ρ μ k μ1) (q : k = k') : TV X e ρ μ k' μ1 := q ▸ h
/-- chains of and, or -/
def WV (X : Cx) (e : Expr) (ρ : REnv) (μ : Sto) (b : Bool) (μ' : Sto) : Prop :=
  ∀ w σ H, Mem X.K H w μ → Sl X.K H w σ ρ → ∀ Q : Bool → Hp → Prop, (∀ H', Mem X.K H' w μ' → Fr w.α H H' → Q b H') → ∃ t, PW X e t ∧ t σ H Q
theorem pw_any {e : Expr} : PW X e (fun σ H Q => ∃ t, PW X e t ∧ t σ H Q) := ⟨fun wh pins s σ H Q I h => let ⟨_, p, q⟩ := h; p.run wh pins s σ H Q I q⟩
theorem WV.tv {k : Bool} (h : WV X e ρ μ k μ1) : TV X e ρ μ k μ1 := fun w σ H m s Q q => let ⟨t, p, r⟩ := h w σ H m s Q q; ⟨t, p.pt, r⟩
theorem WV.and1 {k : Bool} (h : TV X a ρ μ k μ1) : WV X (.BoolOp .And [a] pos) ρ μ k μ1 := fun w σ H m s Q q => ⟨_, pw_and1 (p_tx (e := a)), h w σ H m s Q q⟩
theorem WV.or1 {k : Bool} (h : TV X a ρ μ k μ1) : WV X (.BoolOp .Or [a] pos) ρ μ k μ1 := fun w σ H m s Q q => ⟨_, pw_or1 (p_tx (e := a)), h w σ H m s Q q⟩
theorem WV.and {k l : Bool} {es : List Expr} (h : TV X a ρ μ k μ1) (h0 : k = false → μ2 = μ1 ∧ l = false) (h2 : k = true → WV X (.BoolOp .And (b :: es) pos) ρ μ1 l μ2) : WV X (.BoolOp .And (a :: b :: es) pos) ρ μ l μ2 := by
  intro w σ H m s Q q
  refine ⟨_, pw_and (p_tx (e := a)) (pw_any (e := .BoolOp .And (b :: es) pos)), ?_⟩
  refine h w σ H m s _ fun H1 m1 f1 => ?_
  cases k with
  | true =>
    refine iteT ?_
    exact h2 rfl w σ H1 m1 (s.fr f1) Q fun H2 m2 f2 => q H2 m2 (f1.trans f2)
  | false =>
    refine iteF ?_
    obtain ⟨rfl, rfl⟩ := h0 rfl
    exact q H1 m1 f1
theorem WV.or {k l : Bool} {es : List Expr} (h : TV X a ρ μ k μ1) (h0 : k = true → μ2 = μ1 ∧ l = true) (h2 : k = false → WV X (.BoolOp .Or (b :: es) pos) ρ μ1 l μ2) : WV X (.BoolOp .Or (a :: b :: es) pos) ρ μ l μ2 := by
  intro w σ H m s Q q
  refine ⟨_, pw_or (p_tx (e := a)) (pw_any (e := .BoolOp .Or (b :: es) pos)), ?_⟩
  refine h w σ H m s _ fun H1 m1 f1 => ?_
  cases k with
  | false =>
    refine iteF ?_
    exact h2 rfl w σ H1 m1 (s.fr f1) Q fun H2 m2 f2 => q H2 m2 (f1.trans f2)
  | true =>
    refine iteT ?_
    obtain ⟨rfl, rfl⟩ := h0 rfl
    exact q H1 m1 f1
/-- as values, all True or False -/
theorem EV.one {op} (h : EV X a ρ μ x μ1) : EV X (.BoolOp op [a] pos) ρ μ x μ1 := fun w σ H m s Q q => ⟨_, pe_one (p_ex (e := a)), h w σ H m s Q q⟩
theorem EV.and {k : Bool} {es : List Expr} (h : EV X a ρ μ (Bb k) μ1) (h0 : k = false → μ2 = μ1 ∧ z = Bb false) (h2 : k = true → EV X (.BoolOp .And (b :: es) pos) ρ μ1 z μ2) : EV X (.BoolOp .And (a :: b :: es) pos) ρ μ z μ2 := by
  intro w σ H m s Q q
  refine ⟨_, pe_and (p_ex (e := a)) (p_ex (e := .BoolOp .And (b :: es) pos)), ?_⟩
  refine h w σ H m s _ fun v H1 m1 f1 h1 => ?_
  cases h1
  refine ⟨k, rfl, ?_⟩
  cases k with
  | true =>
    refine iteT ?_
    exact h2 rfl w σ H1 m1 (s.fr f1) Q fun v H2 m2 f2 => q v H2 m2 (f1.trans f2)
  | false =>
    refine iteF ?_
    obtain ⟨rfl, rfl⟩ := h0 rfl
    exact q _ H1 m1 f1 (Dq.bl false)
theorem EV.or {k : Bool} {es : List Expr} (h : EV X a ρ μ (Bb k) μ1) (h0 : k = true → μ2 = μ1 ∧ z = Bb true) (h2 : k = false → EV X (.BoolOp .Or (b :: es) pos) ρ μ1 z μ2) : EV X (.BoolOp .Or (a :: b :: es) pos) ρ μ z μ2 := by
  intro w σ H m s Q q
  refine ⟨_, pe_or (p_ex (e := a)) (p_ex (e := .BoolOp .Or (b :: es) pos)), ?_⟩
  refine h w σ H m s _ fun v H1 m1 f1 h1 => ?_
  cases h1
  refine ⟨k, rfl, ?_⟩
  cases k with
  | false =>
    refine iteF ?_
    exact h2 rfl w σ H1 m1 (s.fr f1) Q fun v H2 m2 f2 => q v H2 m2 (f1.trans f2)
  | true =>
    refine iteT ?_
    obtain ⟨rfl, rfl⟩ := h0 rfl
    exact q _ H1 m1 f1 (Dq.bl true)
theorem EV.not {k : Bool} (h : EV X a ρ μ (Bb k) μ1) : EV X (.UnaryOp .Not a pos) ρ μ (Bb !k) μ1 := by
  intro w σ H m s Q q
  refine ⟨_, pe_not (p_ex (e := a)), ?_⟩
  refine h w σ H m s _ fun v H1 m1 f1 h1 => ?_
  cases h1
  exact ⟨k, rfl, q _ H1 m1 f1 (Dq.bl _)⟩
theorem EV.ifx {k : Bool} (hc : TV X c ρ μ k μ1) (h1 : k = true → EV X a ρ μ1 z μ2) (h2 : k = false → EV X b ρ μ1 z μ2) : EV X (.IfExp c a b pos) ρ μ z μ2 := by
  intro w σ H m s Q q
  refine ⟨_, pe_ifExp (p_tx (e := c)) (p_ex (e := a)) (p_ex (e := b)), ?_⟩
  refine hc w σ H m s _ fun H1 m1 f1 => ?_
  cases k with
  | true => exact iteT (h1 rfl w σ H1 m1 (s.fr f1) Q fun v H2 m2 f2 => q v H2 m2 (f1.trans f2))
  | false => exact iteF (h2 rfl w σ H1 m1 (s.fr f1) Q fun v H2 m2 f2 => q v H2 m2 (f1.trans f2))
theorem AV.nil : AV X [] ρ μ [] μ := fun w σ H m s Q q => ⟨_, pa_nil, q [] H m .refl .nil⟩
theorem AV.cons {es : List Expr} {rs : List Ent} (h : EV X e ρ μ x μ1) (hr : AV X es ρ μ1 rs μ2) (hs : starEach (e :: es) X.env = (false, eval e X.env) :: starEach es X.env := by rfl) : AV X (e :: es) ρ μ (x :: rs) μ2 := by
  intro w σ H m s Q q
  refine ⟨_, pa_cons (p_ex (e := e)) (p_ax (e := es)) hs, ?_⟩
  refine h w σ H m s _ fun v H1 m1 f1 h1 => ?_
  refine hr w σ H1 m1 (s.fr f1) _ fun vs H2 m2 f2 h2 => ?_
  exact q (v :: vs) H2 m2 (f1.trans f2) (.cons (h1.fr f2) h2)
end
def dats (rs : List PyData) : List Ent := rs.map .dat
theorem Vas.dats {K : PySem.W.Frag} {H : Hp} {w : Wd} : ∀ {ds : List PyData} {vs : List V}, Vas K H w vs (dats ds) → DqAll (dl H w.all) vs ds
  | [], vs, h => by rw [Vas.inv0 h]; exact .nil
  | d :: ds, vs, h => by
    obtain ⟨v, us, rfl, h1, h2⟩ := Vas.inv h
    exact .cons h1 (Vas.dats h2)
section
variable {X : Cx} {ρ : REnv} {μ μ1 μ2 μ3 : Sto} {ds : List PyData} {es : List Expr} {pos : Pos} {K : PySem.W.Frag} {H : Hp} {w : Wd}
theorem dl_new {p : Addr} {o : HO} {S : List Addr} (hp : H p = none) : Same (dl H S) (dl (upd H p o) S) := (Fr.of_same (S := S) (Same.new hp)).sameDl fun _ h => h
/-- a new object at p that is no cell -/
theorem val_tup {p : Addr} {vs : List V} (m : Mem K H w μ) (hp : H p = none) (h : DqAll (dl H w.all) vs ds) : Val K (upd H p (.tup vs)) w (.ref p) (Tp ds) := by
  have hn : p ∉ w.all := m.freshA hp
  exact Dq.tup (dl_of hn upd_same) (dqAll_mono (dl_new hp) _ _ h)
theorem val_lst {p : Addr} {vs : List V} (m : Mem K H w μ) (hp : H p = none) (h : DqAll (dl H w.all) vs ds) : Val K (upd H p (.lst vs)) w (.ref p) (Ls ds) := by
  have hn : p ∉ w.all := m.freshA hp
  exact Dq.lst (dl_of hn upd_same) (dqAll_mono (dl_new hp) _ _ h)
end
end J
/-! J2: rules for expressions, by data. -/
namespace J
open PySem PySem.Spec
open PyProof.Rows L2

section
variable {K : PySem.W.Frag} {μ : Sto} {i j : Int} {s t : Str} {ds es : List PyData} {d e : PyData} {b k : Bool}
/-- the answer of an operation that leaves the heap -/
theorem r2v_pure {r : R2} {x y z : Ent} (h : ∀ w H v u, Mem K H w μ → Val K H w v x → Val K H w u y → ∃ t, Val K H w t z ∧ ∀ Q : VK, Q t H → r v u H Q) : R2V K r x y z μ := fun w H v u m h1 h2 Q q => by
  obtain ⟨t, ht, hr⟩ := h w H v u m h1 h2
  exact hr Q (q t H m .refl ht)
theorem r2_I0 {g : Int → Int → V} {z : PyData} (hz : ∀ H, Dq H (g i j) z) : R2V K (rI0 g) (Ii i) (Ii j) (.dat z) μ := r2v_pure fun w H v u m h1 h2 => by
  cases h1
  cases h2
  exact ⟨g i j, hz _, fun Q q => ⟨i, j, rfl, rfl, q⟩⟩
theorem r2_I {C : Int → Int → Prop} {g : Int → Int → V} {z : PyData} (hc : C i j) (hz : ∀ H, Dq H (g i j) z) : R2V K (rI C g) (Ii i) (Ii j) (.dat z) μ := r2v_pure fun w H v u m h1 h2 => by
  cases h1
  cases h2
  exact ⟨g i j, hz _, fun Q q => ⟨i, j, rfl, rfl, hc, q⟩⟩
def scalD : PyData → Bool
  | .none | .bool _ | .int _ | .str _ => true
  | _ => false
/-- == of two of None, bools, ints, texts, of like kinds or None -/
def likeD : PyData → PyData → Bool
  | .bool _, .bool _ => true
  | .int _, .int _ => true
  | .str _, .str _ => true
  | _, _ => false
def eqS : PyData → PyData → Bool
  | .bool a, .bool b => a == b
  | .int a, .int b => a == b
  | .str a, .str b => a == b
  | _, _ => false
theorem likeD_three {d e : PyData} (h : likeD d e = true) : (∃ a b, d = .bool a ∧ e = .bool b) ∨ (∃ a b, d = .int a ∧ e = .int b) ∨ ∃ a b, d = .str a ∧ e = .str b := by
  cases d with
  | bool a => cases e with
    | bool b => exact .inl ⟨a, b, rfl, rfl⟩
    | _ => cases h
  | int a => cases e with
    | int b => exact .inr (.inl ⟨a, b, rfl, rfl⟩)
    | _ => cases h
  | str a => cases e with
    | str b => exact .inr (.inr ⟨a, b, rfl, rfl⟩)
    | _ => cases h
  | _ => cases h
theorem dq_blI {H : Hp} {v : V} {a : Bool} (h : Dq H v (.bool a)) : v = .bl a := by
  cases h
  rfl
theorem dq_intI {H : Hp} {v : V} {a : Int} (h : Dq H v (.int a)) : v = .int a := by
  cases h
  rfl
theorem dq_strI {H : Hp} {v : V} {a : Str} (h : Dq H v (.str a)) : v = .str a := by
  cases h
  rfl
theorem r2_eq (h : likeD d e = true) : R2V K rEq (.dat d) (.dat e) (Bb (eqS d e)) μ := r2v_pure fun w H v u m h1 h2 => by
  rcases likeD_three h with ⟨a, b, rfl, rfl⟩ | ⟨a, b, rfl, rfl⟩ | ⟨a, b, rfl, rfl⟩
  · obtain rfl := dq_blI h1
    obtain rfl := dq_blI h2
    exact ⟨_, Dq.bl _, fun Q q => ⟨rfl, by rw [dec_bl]; exact q⟩⟩
  · obtain rfl := dq_intI h1
    obtain rfl := dq_intI h2
    exact ⟨_, Dq.bl _, fun Q q => ⟨rfl, by rw [dec_int]; exact q⟩⟩
  · obtain rfl := dq_strI h1
    obtain rfl := dq_strI h2
    exact ⟨_, Dq.bl _, fun Q q => ⟨rfl, by rw [dec_str]; exact q⟩⟩
theorem r2_ne (h : likeD d e = true) : R2V K rNe (.dat d) (.dat e) (Bb (!eqS d e)) μ := r2v_pure fun w H v u m h1 h2 => by
  rcases likeD_three h with ⟨a, b, rfl, rfl⟩ | ⟨a, b, rfl, rfl⟩ | ⟨a, b, rfl, rfl⟩
  · obtain rfl := dq_blI h1
    obtain rfl := dq_blI h2
    exact ⟨_, Dq.bl _, fun Q q => ⟨rfl, by rw [dec_bl]; exact q⟩⟩
  · obtain rfl := dq_intI h1
    obtain rfl := dq_intI h2
    exact ⟨_, Dq.bl _, fun Q q => ⟨rfl, by rw [dec_int]; exact q⟩⟩
  · obtain rfl := dq_strI h1
    obtain rfl := dq_strI h2
    exact ⟨_, Dq.bl _, fun Q q => ⟨rfl, by rw [dec_str]; exact q⟩⟩
/-- == at any depth -/
theorem r2_eqD (h1 : SeqAt.shaped d = true) (h2 : SeqAt.shaped e = true) : R2V K (rEqD K) (.dat d) (.dat e) (Bb (PyData.eqv d e)) μ := r2v_pure fun w H v u m a b =>
  ⟨_, Dq.bl _, fun Q q => ⟨d, e, Dq.dp dl_same _ _ a (SeqAt.canLay_of_shaped h1), Dq.dp dl_same _ _ b (SeqAt.canLay_of_shaped h2), h1, h2, q⟩⟩
theorem r2_neD (h1 : SeqAt.shaped d = true) (h2 : SeqAt.shaped e = true) : R2V K (rNeD K) (.dat d) (.dat e) (Bb (!PyData.eqv d e)) μ := r2v_pure fun w H v u m a b =>
  ⟨_, Dq.bl _, fun Q q => ⟨d, e, Dq.dp dl_same _ _ a (SeqAt.canLay_of_shaped h1), Dq.dp dl_same _ _ b (SeqAt.canLay_of_shaped h2), h1, h2, q⟩⟩
def isNone : PyData → Bool
  | .none => true
  | _ => false
theorem dq_isNone {H : Hp} {v : V} (h : Dq H v d) : decide (v = .non) = isNone d := by
  cases h <;> simp [isNone]
theorem r2_isN : R2V K (fun x y H Q => y = .non ∧ Q (.bl (decide (x = .non))) H) (.dat d) Nn (Bb (isNone d)) μ := r2v_pure fun w H v u m a b => by
  cases b
  exact ⟨_, Dq.bl _, fun Q q => ⟨rfl, by rw [dq_isNone a]; exact q⟩⟩
theorem r2_notN : R2V K (fun x y H Q => y = .non ∧ Q (.bl (!decide (x = .non))) H) (.dat d) Nn (Bb (!isNone d)) μ := r2v_pure fun w H v u m a b => by
  cases b
  exact ⟨_, Dq.bl _, fun Q q => ⟨rfl, by rw [dq_isNone a]; exact q⟩⟩
theorem r2_addS (h : s.length + t.length ≤ sizeLine) : R2V K (fun x y H Q => ∃ i j, x = V.str i ∧ y = V.str j ∧ i.length + j.length ≤ sizeLine ∧ Q (.str (i ++ j)) H) (Ss s) (Ss t) (Ss (s ++ t)) μ := r2v_pure fun w H v u m a b => by
  cases a
  cases b
  exact ⟨_, Dq.str _, fun Q q => ⟨s, t, rfl, rfl, h, q⟩⟩
/-- a new list, a new tuple -/
theorem new_lst {H : Hp} {w : Wd} {vs : List V} {Q : VK} (m : Mem K H w μ) (h : DqAll (dl H w.all) vs ds) (q : ∀ v H', Mem K H' w μ → Fr w.α H H' → Val K H' w v (Ls ds) → Q v H') : ∀ p, H p = none → Q (.ref p) (upd H p (.lst vs)) := fun p hp =>
  q _ _ (m.new hp) (Fr.of_same (Same.new hp)) (val_lst m hp h)
theorem new_tup {H : Hp} {w : Wd} {vs : List V} {Q : VK} (m : Mem K H w μ) (h : DqAll (dl H w.all) vs ds) (q : ∀ v H', Mem K H' w μ → Fr w.α H H' → Val K H' w v (Tp ds) → Q v H') : ∀ p, H p = none → Q (.ref p) (upd H p (.tup vs)) := fun p hp =>
  q _ _ (m.new hp) (Fr.of_same (Same.new hp)) (val_tup m hp h)
theorem r2_cat (h : ds.length + es.length ≤ sizeLine) : R2V K rCat (Ls ds) (Ls es) (Ls (ds ++ es)) μ := fun w H v u m a b Q q => by
  cases a with
  | lst ha hd =>
    cases b with
    | lst hb he =>
      exact ⟨_, _, _, _, rfl, rfl, (dl_some ha).2, (dl_some hb).2, by rw [dqAll_len hd, dqAll_len he]; exact h, new_lst m (dqAll_append hd he) q⟩
theorem r2_catT (h : ds.length + es.length ≤ sizeLine) : R2V K (rCatA K) (Tp ds) (Tp es) (Tp (ds ++ es)) μ := fun w H v u m a b Q q => by
  have a' : Val K H w v (Tp ds) := a
  have b' : Val K H w u (Tp es) := b
  cases a with
  | tup ha hd =>
    cases b with
    | tup hb he =>
      refine ⟨_, _, _, _, rfl, rfl, SqT.of (dl_some ha).2, SqT.of (dl_some hb).2, by rw [dqAll_len hd, dqAll_len he]; exact h, fun z => ?_, fun _ z => ?_, fun _ _ => new_tup m (dqAll_append hd he) q⟩
      · subst z
        cases hd
        exact q _ _ m .refl b'
      · subst z
        cases he
        rw [List.append_nil] at q
        exact q _ _ m .refl a'
/-! ### in -/
def flatD : PyData → Bool
  | .none | .bool _ | .int _ | .str _ => true
  | _ => false
def eqF : PyData → PyData → Bool
  | .none, .none => true
  | .bool a, .bool b => a == b
  | .bool a, .int b => (if a then 1 else 0) == b
  | .int a, .bool b => a == (if b then 1 else 0)
  | .int a, .int b => a == b
  | .str a, .str b => a == b
  | _, _ => false
def inD (x : PyData) (xs : List PyData) : Bool := xs.any fun y => eqF y x
theorem dq_flat {H : Hp} {v : V} (h : Dq H v d) : flatV v = flatD d := by cases h <;> rfl
theorem dq_eqF {H : Hp} {v u : V} (h : Dq H v d) (g : Dq H u e) : eqV v u = eqF d e := by cases h <;> cases g <;> rfl
theorem dq_allFlat {H : Hp} : ∀ {vs : List V} {ds : List PyData}, DqAll H vs ds → vs.all flatV = ds.all flatD
  | [], _, h => by cases h; rfl
  | v :: vs, _, h => by
    cases h with
    | cons h1 h2 => rw [List.all_cons, List.all_cons, dq_flat h1, dq_allFlat h2]
theorem dq_inD {H : Hp} {v : V} (h : Dq H v d) : ∀ {vs : List V} {ds : List PyData}, DqAll H vs ds → inV v vs = inD d ds
  | [], _, g => by cases g; rfl
  | u :: vs, _, g => by
    cases g with
    | cons g1 g2 =>
      have := dq_inD h g2
      unfold inV inD at *
      rw [List.any_cons, List.any_cons, this, dq_eqF g1 h]
theorem r2_inL {neg : Bool} (h1 : flatD d = true) (h2 : ds.all flatD = true) : R2V K (rIn K neg) (.dat d) (Ls ds) (Bb (if neg then !inD d ds else inD d ds)) μ := r2v_pure fun w H v u m a b => by
  cases b with
  | lst hb hd => exact ⟨_, Dq.bl _, fun Q q => ⟨_, _, rfl, .inl (SqL.of (dl_some hb).2), by rw [dq_flat a, h1], by rw [dq_allFlat hd, h2], by rw [dq_inD a hd]; exact q⟩⟩
theorem r2_inT {neg : Bool} (h1 : flatD d = true) (h2 : ds.all flatD = true) : R2V K (rIn K neg) (.dat d) (Tp ds) (Bb (if neg then !inD d ds else inD d ds)) μ := r2v_pure fun w H v u m a b => by
  cases b with
  | tup hb hd => exact ⟨_, Dq.bl _, fun Q q => ⟨_, _, rfl, .inr (SqT.of (dl_some hb).2), by rw [dq_flat a, h1], by rw [dq_allFlat hd, h2], by rw [dq_inD a hd]; exact q⟩⟩
theorem r2_inC {neg : Bool} {n : Nat} (hn : μ[n]? = some ds) (h1 : flatD d = true) (h2 : ds.all flatD = true) : R2V K (rIn K neg) (.dat d) (.ptr n) (Bb (if neg then !inD d ds else inD d ds)) μ := r2v_pure fun w H v u m a b => by
  obtain ⟨p, hp, rfl⟩ := b
  obtain ⟨vs, hb, hd⟩ := m.cell n p ds hp hn
  exact ⟨_, Dq.bl _, fun Q q => ⟨_, _, rfl, .inl (SqL.of hb), by rw [dq_flat a, h1], by rw [dq_allFlat hd, h2], by rw [dq_inD a hd]; exact q⟩⟩
/-! ### an item -/
theorem dq_at {H : Hp} {vs : List V} {ds : List PyData} (h : DqAll H vs ds) {i : Int} {d : PyData} (e : atI ds i = some d) : ∃ v, atI vs i = some v ∧ Dq H v d := by
  unfold atI at *
  rw [dqAll_len h]
  cases q : ixN ds.length i with
  | none => rw [q] at e; cases e
  | some j =>
    rw [q] at e
    exact dqAll_get h e
theorem r2_ixT (h : atI ds i = some d) : R2V K (rIxT K) (Tp ds) (Ii i) (.dat d) μ := r2v_pure fun w H v u m a b => by
  cases a with
  | tup ha hd =>
    cases b
    obtain ⟨x, hx, dx⟩ := dq_at hd h
    exact ⟨x, dx, fun Q q => ⟨_, _, i, x, rfl, rfl, SqT.of (dl_some ha).2, hx, q⟩⟩
theorem r2_ixL (h : atI ds i = some d) : R2V K (rIxL K) (Ls ds) (Ii i) (.dat d) μ := r2v_pure fun w H v u m a b => by
  cases a with
  | lst ha hd =>
    cases b
    obtain ⟨x, hx, dx⟩ := dq_at hd h
    exact ⟨x, dx, fun Q q => ⟨_, _, i, x, rfl, rfl, SqL.of (dl_some ha).2, hx, q⟩⟩
theorem r2_ixC {n : Nat} (hn : μ[n]? = some ds) (h : atI ds i = some d) : R2V K (rIxL K) (.ptr n) (Ii i) (.dat d) μ := r2v_pure fun w H v u m a b => by
  obtain ⟨p, hp, rfl⟩ := a
  cases b
  obtain ⟨vs, hb, hd⟩ := m.cell n p ds hp hn
  obtain ⟨x, hx, dx⟩ := dq_at hd h
  exact ⟨x, dx, fun Q q => ⟨_, _, i, x, rfl, rfl, SqL.of hb, hx, q⟩⟩
theorem r2_ixS {c : Nat} (hl : s.length ≤ sizeLine) (h : atI s.cps.toList i = some c) : R2V K rIxS (Ss s) (Ii i) (Ss ⟨#[c]⟩) μ := r2v_pure fun w H v u m a b => by
  cases a
  cases b
  exact ⟨_, Dq.str _, fun Q q => ⟨s, i, c, rfl, rfl, hl, h, q⟩⟩
theorem r2_inSign {c : Nat} : R2V K (fun x y H Q => ∃ (c : Nat) (z : Str), x = V.str ⟨#[c]⟩ ∧ y = V.str z ∧ Q (.bl (decide (c ∈ z.cps.toList))) H) (Ss ⟨#[c]⟩) (Ss t) (Bb (decide (c ∈ t.cps.toList))) μ := r2v_pure fun w H v u m a b => by
  cases a
  cases b
  exact ⟨_, Dq.bl _, fun Q q => ⟨c, t, rfl, rfl, q⟩⟩
end

section
variable {X : Cx} {ρ : REnv} {μ μ1 μ2 μ3 : Sto} {x y z r : Ent} {a b c e : Expr} {es : List Expr} {pos p2 p : Pos} {rs : List Ent} {ds : List PyData} {d : PyData} {i j : Int} {s t n : Str}
theorem EV.ix {q : R2} (hr : IxR X q) (ha : EV X a ρ μ x μ1) (hb : EV X b ρ μ1 y μ2) (h : R2V X.K q x y z μ2) (hs : PlainIx b := by exact fun _ _ => rfl) : EV X (.Subscript a b pos) ρ μ z μ2 := by
  intro w σ H m s Q q
  refine ⟨_, pe_ix hr (p_ex (e := a)) (p_ex (e := b)) hs, ?_⟩
  refine ha w σ H m s _ fun v H1 m1 f1 h1 => ?_
  refine hb w σ H1 m1 (s.fr f1) _ fun u H2 m2 f2 h2 => ?_
  exact h w H2 v u m2 (h1.fr f2) h2 Q fun t H3 m3 f3 h3 => q t H3 m3 ((f1.trans f2).trans f3) h3
/-- the tests by name -/
theorem EV.tup {k} (ha : AV X es ρ μ (dats ds) μ1) (hl : ds.length ≤ 1000 := by exact Nat.le_of_ble_eq_true rfl) : EV X (.Tuple es k pos) ρ μ (Tp ds) μ1 := by
  intro w σ H m s Q q
  refine ⟨_, pe_tup (p_ax (e := es)), ?_⟩
  refine ha w σ H m s _ fun vs H1 m1 f1 h1 => ?_
  have hd := h1.dats
  exact ⟨by rw [dqAll_len hd]; exact Nat.le_of_lt (small1000 hl), new_tup m1 hd fun v H2 m2 f2 h2 => q v H2 m2 (f1.trans f2) h2⟩
theorem EV.lst (ha : AV X es ρ μ (dats ds) μ1) (hl : ds.length ≤ 1000 := by exact Nat.le_of_ble_eq_true rfl) : EV X (.List es pos) ρ μ (Ls ds) μ1 := by
  intro w σ H m s Q q
  refine ⟨_, pe_lst (p_ax (e := es)), ?_⟩
  refine ha w σ H m s _ fun vs H1 m1 f1 h1 => ?_
  have hd := h1.dats
  exact ⟨by rw [dqAll_len hd]; exact Nat.le_of_lt (small1000 hl), new_lst m1 hd fun v H2 m2 f2 h2 => q v H2 m2 (f1.trans f2) h2⟩
/-- a new list of the code's own -/
theorem EVF.lst (ha : AV X es ρ μ (dats ds) μ1) (hl : ds.length ≤ 1000 := by exact Nat.le_of_ble_eq_true rfl) : EVF X (.List es pos) ρ μ ds μ1 := by
  intro w σ H m s Q q
  refine ⟨_, pe_lst (p_ax (e := es)), ?_⟩
  refine ha w σ H m s _ fun vs H1 m1 f1 h1 => ?_
  have hd := h1.dats
  refine ⟨by rw [dqAll_len hd]; exact Nat.le_of_lt (small1000 hl), fun p hp => ?_⟩
  have hp0 : Nw H p := Nw.back f1 (Nw.of hp) (m1.fresh hp)
  exact q p _ vs (m1.keep hp) (f1.trans (Fr.of_same (Same.new hp))) hp0 upd_same (dqAll_mono (keep_out (K := X.K) hp (Fr.of_same (Same.new hp)) ⟨_, upd_same⟩) _ _ hd)

/-! ### calls -/
def SpV (K : PySem.W.Frag) (ps : List Str) (C : List Ent → Sto → Ent → Sto → Prop) : Sp := fun vs H Q _ =>
  ∃ w μ rs r μ', Mem K H w μ ∧ Vas K H w vs rs ∧ rs.length = ps.length ∧ C rs μ r μ' ∧ ∀ v H', Mem K H' w μ' → Fr w.α H H' → Val K H' w v r → Q v H'
structure Cal (P : Program) (w : World) (K : PySem.W.Frag) (mg : Str → Option Value) (base : Heap) (n : Str) (k : Nat) (ps : List Str) (C : List Ent → Sto → Ent → Sto → Prop) : Prop where
  ex : ∃ f fd, FnOk P w K mg base CX0 k f fd ps (SpV K ps C) ∧ mg n = some (.ref f) ∧ PySem.W.keepIn K (.ref f) = true ∧ Binds K fd ps []
theorem EV.call {k : Nat} {ps : List Str} {C : List Ent → Sto → Ent → Sto → Prop} (F : Cal X.prog X.w X.K X.mg X.base n k ps C) (hr : Room k X.A) (ha : AV X (e :: es) ρ μ rs μ1) (hC : C rs μ1 r μ2) (hl : rs.length = ps.length := by rfl)
    (hg : Gl X n := by rfl) (hdb : (n == ("__debug__" : Str)) = false := by decide) (he : starEach (e :: es) X.env = (false, eval e X.env) :: starEach es X.env := by rfl) (hpl : (backTo pos (starEach es X.env)).any (·.1) = false := by rfl) :
    EV X (.Call (.Name n p) (e :: es) [] pos) ρ μ r μ2 := by
  intro w σ H m s Q q
  obtain ⟨f, fd, G, hm, hk, hb⟩ := F.ex
  refine ⟨_, pe_call (E := E0) G hr hg hm hk hb .nil pass0 (p_ax (e := e :: es)) hdb he hpl, ?_⟩
  refine ha w σ H m s _ fun vs H1 m1 f1 h1 => ?_
  refine ⟨w, μ1, rs, r, μ2, m1, by rw [List.append_nil]; exact h1, hl, hC, fun v H' m2 f2 h2 => q v H' m2 (f1.trans f2) h2⟩
def CallV (K : PySem.W.Frag) (r : List V → Hp → VK → Prop) (rs : List Ent) (z : Ent) (μ : Sto) : Prop := ∀ w H vs, Mem K H w μ → Vas K H w vs rs → ∀ Q : VK, (∀ t H', Mem K H' w μ → Fr w.α H H' → Val K H' w t z → Q t H') → r vs H Q
theorem EV.callB {id : String} {q : List V → Hp → VK → Prop} (hc : CallR X (.builtin id) q) (hm : X.mg n = none) (hv : bootBuiltins n = some (.builtin id)) (ha : AV X (e :: es) ρ μ rs μ1) (h : CallV X.K q rs z μ1)
    (hg : Gl X n := by rfl) (hn : n ≠ "__name__" := by decide) (hdb : (n == ("__debug__" : Str)) = false := by decide) (he : starEach (e :: es) X.env = (false, eval e X.env) :: starEach es X.env := by rfl) (hpl : (backTo pos (starEach es X.env)).any (·.1) = false := by rfl) :
    EV X (.Call (.Name n p) (e :: es) [] pos) ρ μ z μ1 := by
  intro w σ H m s Q q
  refine ⟨_, pe_callB hc hg hm hv (p_ax (e := e :: es)) hn hdb he hpl, ?_⟩
  refine ha w σ H m s _ fun vs H1 m1 f1 h1 => ?_
  exact h w H1 vs m1 h1 Q fun t H' m2 f2 h2 => q t H' m2 (f1.trans f2) h2
theorem EV.callTy {id : String} {q : List V → Hp → VK → Prop} (hc : CallR X (.type id) q) (hm : X.mg n = none) (hv : bootBuiltins n = some (.type id)) (ha : AV X (e :: es) ρ μ rs μ1) (h : CallV X.K q rs z μ1)
    (hg : Gl X n := by rfl) (hn : n ≠ "__name__" := by decide) (hdb : (n == ("__debug__" : Str)) = false := by decide) (he : starEach (e :: es) X.env = (false, eval e X.env) :: starEach es X.env := by rfl) (hpl : (backTo pos (starEach es X.env)).any (·.1) = false := by rfl) :
    EV X (.Call (.Name n p) (e :: es) [] pos) ρ μ z μ1 := by
  intro w σ H m s Q q
  refine ⟨_, pe_callTy hc hg hm hv (p_ax (e := e :: es)) hn hdb he hpl, ?_⟩
  refine ha w σ H m s _ fun vs H1 m1 f1 h1 => ?_
  exact h w H1 vs m1 h1 Q fun t H' m2 f2 h2 => q t H' m2 (f1.trans f2) h2
end
section
variable {K : PySem.W.Frag} {μ : Sto} {i j : Int} {s t : Str} {ds es : List PyData} {d e : PyData} {b k : Bool} {x z : Ent}
theorem call1 {r : List V → Hp → VK → Prop} (h : ∀ w H v, Mem K H w μ → Val K H w v x → ∀ Q : VK, (∀ t H', Mem K H' w μ → Fr w.α H H' → Val K H' w t z → Q t H') → r [v] H Q) : CallV K r [x] z μ := fun w H vs m hv Q q => by
  obtain ⟨v, us, rfl, h1, h2⟩ := hv.inv
  rw [h2.inv0]
  exact h w H v m h1 Q q
theorem call2 {r : List V → Hp → VK → Prop} {y : Ent} (h : ∀ w H v u, Mem K H w μ → Val K H w v x → Val K H w u y → ∀ Q : VK, (∀ t H', Mem K H' w μ → Fr w.α H H' → Val K H' w t z → Q t H') → r [v, u] H Q) : CallV K r [x, y] z μ := fun w H vs m hv Q q => by
  obtain ⟨v, us, rfl, h1, h2⟩ := hv.inv
  obtain ⟨u, us, rfl, h3, h4⟩ := h2.inv
  rw [h4.inv0]
  exact h w H v u m h1 h3 Q q
theorem cv_lenS (h : s.length ≤ sizeLine) : CallV K (fun xs H Q => ∃ z, xs = [V.str z] ∧ z.length ≤ sizeLine ∧ Q (.int z.length) H) [Ss s] (Ii s.length) μ := call1 fun w H v m a Q q => by
  cases a
  exact ⟨s, rfl, h, q _ _ m .refl (Dq.int _)⟩
theorem cv_lenL : CallV K (fun xs H Q => ∃ p ys, xs = [V.ref p] ∧ (SqL K H p ys ∨ SqT K H p ys) ∧ Q (.int ys.length) H) [Ls ds] (Ii ds.length) μ := call1 fun w H v m a Q q => by
  cases a with
  | lst ha hd => exact ⟨_, _, rfl, .inl (SqL.of (dl_some ha).2), by rw [dqAll_len hd]; exact q _ _ m .refl (Dq.int _)⟩
theorem cv_lenT : CallV K (fun xs H Q => ∃ p ys, xs = [V.ref p] ∧ (SqL K H p ys ∨ SqT K H p ys) ∧ Q (.int ys.length) H) [Tp ds] (Ii ds.length) μ := call1 fun w H v m a Q q => by
  cases a with
  | tup ha hd => exact ⟨_, _, rfl, .inr (SqT.of (dl_some ha).2), by rw [dqAll_len hd]; exact q _ _ m .refl (Dq.int _)⟩
theorem cv_lenC {n : Nat} (hn : μ[n]? = some ds) : CallV K (fun xs H Q => ∃ p ys, xs = [V.ref p] ∧ (SqL K H p ys ∨ SqT K H p ys) ∧ Q (.int ys.length) H) [.ptr n] (Ii ds.length) μ := call1 fun w H v m a Q q => by
  obtain ⟨p, hp, rfl⟩ := a
  obtain ⟨vs, hb, hd⟩ := m.cell n p ds hp hn
  exact ⟨_, _, rfl, .inl (SqL.of hb), by rw [dqAll_len hd]; exact q _ _ m .refl (Dq.int _)⟩
theorem cv_lenScr {ns : List Int} : CallV K (fun xs H Q => ∃ p ys, xs = [V.ref p] ∧ (SqL K H p ys ∨ SqT K H p ys) ∧ Q (.int ys.length) H) [.scr ns] (Ii ns.length) μ := call1 fun w H v m a Q q => by
  obtain ⟨p, rfl, hs⟩ := a
  exact ⟨_, _, rfl, .inl (Same.seq dl_same hs), by rw [List.length_map]; exact q _ _ m .refl (Dq.int _)⟩
theorem cv_str (h : i.natAbs.log2 < 1920) : CallV K (fun xs H Q => ∃ i, xs = [V.int i] ∧ i.natAbs.log2 < 1920 ∧ Q (.str (toString i)) H) [Ii i] (Ss (toString i : String)) μ := call1 fun w H v m a Q q => by
  cases a
  exact ⟨i, rfl, h, q _ _ m .refl (Dq.str _)⟩
theorem cv_int1 : CallV K (fun xs H Q => (∃ i, xs = [V.int i] ∧ Q (.int i) H) ∨ ∃ k, xs = [.bl k] ∧ Q (.int (if k then 1 else 0)) H) [Ii i] (Ii i) μ := call1 fun w H v m a Q q => by
  cases a
  exact .inl ⟨i, rfl, q _ _ m .refl (Dq.int _)⟩
theorem cv_intS (h : PySem.intText? s = some i) (hl : s.length ≤ 640) : CallV K (fun xs H Q => ∃ a n, xs = [V.str a] ∧ PySem.intText? a = some n ∧ a.length ≤ 640 ∧ Q (.int n) H) [Ss s] (Ii i) μ := call1 fun w H v m a Q q => by
  cases a
  exact ⟨s, i, rfl, h, hl, q _ _ m .refl (Dq.int _)⟩
theorem cv_abs : CallV K (fun xs H Q => ∃ i, xs = [V.int i] ∧ Q (.int (if i < 0 then -i else i)) H) [Ii i] (Ii (if i < 0 then -i else i)) μ := call1 fun w H v m a Q q => by
  cases a
  exact ⟨i, rfl, q _ _ m .refl (Dq.int _)⟩
theorem cv_max : CallV K (fun xs H Q => ∃ i j, xs = [V.int i, .int j] ∧ Q (.int (if j > i then j else i)) H) [Ii i, Ii j] (Ii (if j > i then j else i)) μ := call2 fun w H v u m a b Q q => by
  cases a
  cases b
  exact ⟨i, j, rfl, q _ _ m .refl (Dq.int _)⟩
theorem cv_min : CallV K (fun xs H Q => ∃ i j, xs = [V.int i, .int j] ∧ Q (.int (if j < i then j else i)) H) [Ii i, Ii j] (Ii (if j < i then j else i)) μ := call2 fun w H v u m a b Q q => by
  cases a
  cases b
  exact ⟨i, j, rfl, q _ _ m .refl (Dq.int _)⟩
theorem cv_divmod (h : CDiv i j) : CallV K (fun xs H Q => ∃ i j, xs = [V.int i, .int j] ∧ CDiv i j ∧ ∀ p, H p = none → Q (.ref p) (upd H p (.tup [.int (i / j), .int (i % j)]))) [Ii i, Ii j] (Tp [.int (i / j), .int (i % j)]) μ := call2 fun w H v u m a b Q q => by
  cases a
  cases b
  exact ⟨i, j, rfl, h, new_tup m (.cons (.int _) (.cons (.int _) .nil)) q⟩
theorem dq_bools : ∀ {bs : List Bool} {H : Hp} {vs : List V}, DqAll H vs (bs.map PyData.bool) → vs = bs.map V.bl
  | [], H, _, h => by cases h; rfl
  | y :: ys, H, _, h => by
    cases h with
    | cons h1 h2 => cases h1; rw [dq_bools h2]; rfl
theorem cv_all {bs : List Bool} : CallV K (rAll K) [Ls (bs.map PyData.bool)] (Bb (bs.all id)) μ := call1 fun w H v m a Q q => by
  cases a with
  | lst ha hd =>
    rw [dq_bools hd] at ha
    exact ⟨_, bs, rfl, SqL.of (dl_some ha).2, q _ _ m .refl (Dq.bl _)⟩
theorem cv_any {bs : List Bool} : CallV K (rAny K) [Ls (bs.map PyData.bool)] (Bb (bs.any id)) μ := call1 fun w H v m a Q q => by
  cases a with
  | lst ha hd =>
    rw [dq_bools hd] at ha
    exact ⟨_, bs, rfl, SqL.of (dl_some ha).2, q _ _ m .refl (Dq.bl _)⟩
theorem cv_tupL : CallV K (fun xs H Q => ∃ p ys, xs = [V.ref p] ∧ ((SqL K H p ys ∧ ∀ l, H l = none → Q (.ref l) (upd H l (.tup ys))) ∨ (SqT K H p ys ∧ Q (.ref p) H))) [Ls ds] (Tp ds) μ := call1 fun w H v m a Q q => by
  cases a with
  | lst ha hd => exact ⟨_, _, rfl, .inl ⟨SqL.of (dl_some ha).2, new_tup m hd q⟩⟩
theorem cv_tupT : CallV K (fun xs H Q => ∃ p ys, xs = [V.ref p] ∧ ((SqL K H p ys ∧ ∀ l, H l = none → Q (.ref l) (upd H l (.tup ys))) ∨ (SqT K H p ys ∧ Q (.ref p) H))) [Tp ds] (Tp ds) μ := call1 fun w H v m a Q q => by
  have a' : Val K H w v (Tp ds) := a
  cases a with
  | tup ha hd => exact ⟨_, _, rfl, .inr ⟨SqT.of (dl_some ha).2, q _ _ m .refl a'⟩⟩
theorem cv_lstT : CallV K (fun xs H Q => ∃ p ys, xs = [V.ref p] ∧ (SqL K H p ys ∨ SqT K H p ys) ∧ ∀ l, H l = none → Q (.ref l) (upd H l (.lst ys))) [Tp ds] (Ls ds) μ := call1 fun w H v m a Q q => by
  cases a with
  | tup ha hd => exact ⟨_, _, rfl, .inr (SqT.of (dl_some ha).2), new_lst m hd q⟩
theorem cv_lstL : CallV K (fun xs H Q => ∃ p ys, xs = [V.ref p] ∧ (SqL K H p ys ∨ SqT K H p ys) ∧ ∀ l, H l = none → Q (.ref l) (upd H l (.lst ys))) [Ls ds] (Ls ds) μ := call1 fun w H v m a Q q => by
  cases a with
  | lst ha hd => exact ⟨_, _, rfl, .inl (SqL.of (dl_some ha).2), new_lst m hd q⟩
/-- its type's name -/
def tyD : PyData → String
  | .none => "NoneType"
  | .bool _ => "bool"
  | .int _ => "int"
  | .str _ => "str"
  | .list _ => "list"
  | .tuple _ => "tuple"
  | .dict _ => "dict"
def isObj : PyData → Bool
  | .dict ((.none, _) :: _) => true
  | .dict ((.bool _, _) :: _) => true
  | _ => false
mutual
/-- no object in it -/
def nob : PyData → Bool
  | .list xs => nobAll xs
  | .tuple xs => nobAll xs
  | .dict kvs => !isObj (.dict kvs)
  | _ => true
def nobAll : List PyData → Bool
  | [] => true
  | x :: xs => nob x && nobAll xs
end
theorem nobAll_mem : ∀ {xs : List PyData}, nobAll xs = true → ∀ x ∈ xs, nob x = true
  | [], _, x, h => by simp at h
  | y :: ys, h, x, hx => by
    simp only [nobAll, Bool.and_eq_true] at h
    rcases List.mem_cons.mp hx with rfl | hx
    · exact h.1
    · exact nobAll_mem h.2 x hx
theorem nobAll_of : ∀ {xs : List PyData}, (∀ x ∈ xs, nob x = true) → nobAll xs = true
  | [], _ => rfl
  | y :: ys, h => by
    simp only [nobAll, Bool.and_eq_true]
    exact ⟨h y List.mem_cons_self, nobAll_of fun x hx => h x (List.mem_cons_of_mem _ hx)⟩
theorem nob_isObj {d : PyData} (h : nob d = true) : isObj d = false := by
  cases d with
  | dict kvs => simpa [nob] using h
  | _ => rfl
theorem nob_tup {xs : List PyData} (h : nob (.tuple xs) = true) : ∀ x ∈ xs, nob x = true := nobAll_mem (by simpa only [nob] using h)
theorem nob_lst {xs : List PyData} (h : nob (.list xs) = true) : ∀ x ∈ xs, nob x = true := nobAll_mem (by simpa only [nob] using h)
theorem tyD_dic {ks : List Key} {ds : List PyData} : tyD (.dict ((ks.map keyD).zip ds)) = "dict" := rfl
theorem dq_ty {H H' : Hp} {v : V} (h : Dq H v d) (e : Same H H') (ho : isObj d = false) : TyX K H' v (.type (tyD d)) := by
  cases h with
  | ins hx hn hd => cases ho
  | exn ha hx hn hd => cases ho
  | ex0 ha => cases ho
  | dic ha hn hd => exact .base (.dK (e _ _ ha))
  | non => exact .base .non
  | bl b => exact .base (.bl b)
  | int i => exact .base (.int i)
  | str x => exact .base (.str x)
  | lst ha hd => exact .base (.lst (e _ _ ha))
  | tup ha hd => exact .base (.tup (e _ _ ha))
end
section
variable {X : Cx} {ρ : REnv} {μ μ1 μ2 μ3 : Sto} {x y z r : Ent} {a b c e : Expr} {es : List Expr} {pos p2 p p3 : Pos} {rs : List Ent} {ds : List PyData} {d : PyData} {i j : Int} {s t n : Str}
/-- isinstance(a, T), T a built-in class -/
theorem EV.isi {T : String} {k : Bool} (ha : EV X a ρ μ (.dat d) μ1) (hob : isObj d = false) (hk : kitB (tyD d) T = some k) (hm : X.mg "isinstance" = none) (hmT : X.mg n = none) (hvT : bootBuiltins n = some (.type T)) (hg : Gl X "isinstance" := by rfl) (hgT : Gl X n := by rfl) (hn : n ≠ "__name__" := by decide)
    (hdb : (n == ("__debug__" : Str)) = false := by decide)
    (he : starEach [a, .Name n p2] X.env = (false, eval a X.env) :: starEach [.Name n p2] X.env := by rfl) (he2 : starEach [.Name n p2] X.env = (false, eval (.Name n p2) X.env) :: starEach [] X.env := by rfl) (hpl : (backTo pos (starEach [.Name n p2] X.env)).any (·.1) = false := by rfl) :
    EV X (.Call (.Name "isinstance" p) [a, .Name n p2] [] pos) ρ μ (Bb k) μ1 := by
  intro w σ H m s Q q
  refine ⟨_, pe_callB call_isi hg hm (by decide +kernel) (pa_cons (p_ex (e := a)) (pa_cons (pe_bltn (v := .ty T) hgT hmT hvT rfl hn hdb) pa_nil he2) he) (by decide) (by decide) he hpl, ?_⟩
  refine ha w σ H m s _ fun v H1 m1 f1 h1 => ?_
  exact ⟨v, .ty T, _, .type T, k, rfl, .ty T, dq_ty h1 dl_same hob, kit_ty hk, q _ _ m1 f1 (Dq.bl k)⟩

/-! ### methods of texts -/
def MtV (K : PySem.W.Frag) (r : V → List V → Hp → VK → Prop) (x : Ent) (rs : List Ent) (z : Ent) (μ : Sto) : Prop := ∀ w H v vs, Mem K H w μ → Val K H w v x → Vas K H w vs rs → ∀ Q : VK, (∀ t H', Mem K H' w μ → Fr w.α H H' → Val K H' w t z → Q t H') → r v vs H Q
end
end J
/-! J3: what is walked, targets, comprehensions, slices, methods. -/
namespace J
open PySem PySem.Spec
open PyProof.Rows L2

/-! ### what is walked -/
structure Wk (J : It) (G : Hp) (ds : List PyData) : Prop where
  go : ∀ H2, Same G H2 → ∀ (i : Nat) (d : PyData), ds[i]? = some d → J.go i H2 ∧ ∀ x H3, J.yld i H2 x H3 → Same H2 H3 ∧ ∀ T : List Addr, Same G (dl H2 T) → (∀ b ∈ T, ∃ o, H2 b = some o) → Dq (dl H3 T) x d
  stop : ∀ H2, Same G H2 → J.stop ds.length H2
def IV (X : Cx) (tg e : Expr) (ρ : REnv) (μ : Sto) (ds : List PyData) (μ' : Sto) : Prop :=
  ∀ w σ H, Mem X.K H w μ → Sl X.K H w σ ρ → ∀ R : It → Hp → Prop, (∀ J H', Mem X.K H' w μ' → Fr w.α H H' → Wk J (dl H' w.all) ds → R J H') → IX X tg e σ H R
section
variable {X : Cx} {ρ : REnv} {μ μ1 μ2 μ3 : Sto} {tg a b e : Expr} {ds : List PyData} {i j : Int} {s : Str} {pos p : Pos}
theorem wk_lst {K : PySem.W.Frag} {G : Hp} {c : Addr} {vs : List V} (h : G c = some (.lst vs)) (hd : DqAll G vs ds) : Wk (Itl K c) G ds := by
  refine ⟨fun H2 s i d e => ?_, fun H2 s => ⟨vs, SqL.of (s _ _ h), Nat.le_of_eq (dqAll_len hd)⟩⟩
  obtain ⟨v, hv, dv⟩ := dqAll_get hd e
  refine ⟨⟨vs, v, SqL.of (s _ _ h), hv⟩, fun x H3 y => ?_⟩
  obtain ⟨rfl, y⟩ := y
  have := y vs (SqL.of (s _ _ h))
  rw [hv] at this
  cases this
  exact ⟨Same.refl _, fun T st _ => dq_mono st _ _ dv⟩
theorem wk_tup {K : PySem.W.Frag} {G : Hp} {c : Addr} {vs : List V} (h : G c = some (.tup vs)) (hd : DqAll G vs ds) : Wk (Itt K c) G ds := by
  refine ⟨fun H2 s i d e => ?_, fun H2 s => ⟨vs, SqT.of (s _ _ h), Nat.le_of_eq (dqAll_len hd)⟩⟩
  obtain ⟨v, hv, dv⟩ := dqAll_get hd e
  refine ⟨⟨vs, v, SqT.of (s _ _ h), hv⟩, fun x H3 y => ?_⟩
  obtain ⟨rfl, y⟩ := y
  have := y vs (SqT.of (s _ _ h))
  rw [hv] at this
  cases this
  exact ⟨Same.refl _, fun T st _ => dq_mono st _ _ dv⟩
theorem IV.lst (h : EV X e ρ μ (Ls ds) μ1) : IV X tg e ρ μ ds μ1 := by
  intro w σ H m s R q
  refine ⟨_, pi_list (p_ex (e := e)), ?_⟩
  refine h w σ H m s _ fun v H1 m1 f1 h1 => ?_
  cases h1 with
  | lst ha hd => exact ⟨_, rfl, ⟨_, SqL.of (dl_some ha).2⟩, q _ H1 m1 f1 (wk_lst ha hd)⟩
theorem IV.tup (h : EV X e ρ μ (Tp ds) μ1) : IV X tg e ρ μ ds μ1 := by
  intro w σ H m s R q
  refine ⟨_, pi_tup (p_ex (e := e)), ?_⟩
  refine h w σ H m s _ fun v H1 m1 f1 h1 => ?_
  cases h1 with
  | tup ha hd => exact ⟨_, rfl, ⟨_, SqT.of (dl_some ha).2⟩, q _ H1 m1 f1 (wk_tup ha hd)⟩
def strD (s : Str) : List PyData := s.cps.toList.map fun c => .str ⟨#[c]⟩
theorem IV.str (h : EV X e ρ μ (Ss s) μ1) : IV X tg e ρ μ (strD s) μ1 := by
  intro w σ H m s' R q
  refine ⟨_, pi_str (p_ex (e := e)), ?_⟩
  refine h w σ H m s' _ fun v H1 m1 f1 h1 => ?_
  cases h1
  refine ⟨s, rfl, q _ H1 m1 f1 ⟨fun H2 st i d e => ?_, fun H2 st => by show s.cps.size ≤ (strD s).length; simp [strD]⟩⟩
  have hi : i < s.cps.size := by
    have := (List.getElem?_eq_some_iff.mp e).1
    simpa [strD] using this
  refine ⟨hi, fun x H3 y => ?_⟩
  obtain ⟨rfl, c, hc, rfl⟩ := y
  refine ⟨Same.refl _, fun T st2 _ => ?_⟩
  have : d = .str ⟨#[c]⟩ := by
    have hc' : s.cps.toList[i]? = some c := by simpa using hc
    unfold strD at e
    rw [List.getElem?_map, hc'] at e
    simpa using e.symm
  rw [this]
  exact .str _
def rngD (lo : Int) (n : Nat) : List PyData := (List.range n).map fun (i : Nat) => PyData.int (lo + (i : Int))
theorem rngD_len {lo : Int} {n : Nat} : (rngD lo n).length = n := by simp [rngD]
theorem wk_rng {lo : Int} {n : Nat} {G : Hp} : Wk (Itr lo n) G (rngD lo n) := by
  refine ⟨fun H2 st i d e => ?_, fun H2 st => by show n ≤ (rngD lo n).length; rw [rngD_len]; exact Nat.le_refl n⟩
  have hi : i < n := by
    have := (List.getElem?_eq_some_iff.mp e).1
    rwa [rngD_len] at this
  refine ⟨hi, fun x H3 y => ?_⟩
  obtain ⟨rfl, rfl⟩ := y
  refine ⟨Same.refl _, fun T st2 _ => ?_⟩
  have : d = .int (lo + (i : Int)) := by
    unfold rngD at e
    rw [List.getElem?_map] at e
    simp [hi] at e
    exact e.symm
  rw [this]
  exact .int _
theorem IV.rng1 (h : EV X a ρ μ (Ii j) μ1) (h1 : -(2 ^ 62) ≤ j) (h2 : j < 2 ^ 62) (hm : X.mg "range" = none) (hg : Gl X "range" := by rfl) (hs : starEach [a] X.env = [(false, eval a X.env)] := by rfl) : IV X tg (.Call (.Name "range" p) [a] [] pos) ρ μ (rngD 0 j.toNat) μ1 := by
  intro w σ H m s R q
  refine ⟨_, pi_range1 hg hm (pa_cons (p_ex (e := a)) pa_nil hs) hs, ?_⟩
  refine h w σ H m s _ fun v H1 m1 f1 hv => ?_
  cases hv
  exact ⟨j, rfl, h1, h2, q _ H1 m1 f1 wk_rng⟩
theorem IV.rng2 (ha : EV X a ρ μ (Ii i) μ1) (hb : EV X b ρ μ1 (Ii j) μ2) (h : -(2 ^ 62) ≤ i ∧ i < 2 ^ 62 ∧ -(2 ^ 62) ≤ j ∧ j < 2 ^ 62) (hm : X.mg "range" = none) (hg : Gl X "range" := by rfl)
    (hs : starEach [a, b] X.env = [(false, eval a X.env), (false, eval b X.env)] := by rfl) (hs2 : starEach [b] X.env = [(false, eval b X.env)] := by rfl) : IV X tg (.Call (.Name "range" p) [a, b] [] pos) ρ μ (rngD i (j - i).toNat) μ2 := by
  intro w σ H m s R q
  refine ⟨_, pi_range2 hg hm (pa_cons (p_ex (e := a)) (pa_cons (p_ex (e := b)) pa_nil (by rw [hs2]; rfl)) (by rw [hs, hs2])) hs hs2, ?_⟩
  refine ha w σ H m s _ fun v H1 m1 f1 hv => ?_
  cases hv
  refine hb w σ H1 m1 (s.fr f1) _ fun v H2 m2 f2 hv => ?_
  cases hv
  exact ⟨i, j, rfl, h, q _ H2 m2 (f1.trans f2) wk_rng⟩
def enD : Nat → List PyData → List PyData
  | _, [] => []
  | n, d :: ds => .tuple [.int (n : Int), d] :: enD (n + 1) ds
theorem enD_get : ∀ {ds : List PyData} {n i : Nat} {d : PyData}, (enD n ds)[i]? = some d → ∃ c, ds[i]? = some c ∧ d = .tuple [.int ((n + i : Nat) : Int), c]
  | [], n, i, d, h => by simp [enD] at h
  | x :: xs, n, 0, d, h => by simp [enD] at h; exact ⟨x, rfl, by rw [← h]; rfl⟩
  | x :: xs, n, i + 1, d, h => by
    obtain ⟨c, h1, h2⟩ := enD_get (ds := xs) (n := n + 1) (i := i) (by simpa [enD] using h)
    exact ⟨c, by simpa using h1, by rw [h2]; congr 4; omega⟩
theorem enD_len : ∀ {ds : List PyData} {n : Nat}, (enD n ds).length = ds.length
  | [], _ => rfl
  | x :: xs, n => by simp [enD, enD_len (ds := xs)]
theorem IV.enum {elts : List Expr} {kk : Nat} {tpos : Pos} (h : EV X e ρ μ (Ls ds) μ1) (hm : X.mg "enumerate" = none) (hg : Gl X "enumerate" := by rfl) (hs : starEach [e] X.env = [(false, eval e X.env)] := by rfl) :
    IV X (.Tuple elts kk tpos) (.Call (.Name "enumerate" p) [e] [] pos) ρ μ (enD 0 ds) μ1 := by
  intro w σ H m s R q
  refine ⟨_, pi_enum hg hm (pa_cons (p_ex (e := e)) pa_nil hs) hs, ?_⟩
  refine h w σ H m s _ fun v H1 m1 f1 h1 => ?_
  cases h1 with
  | lst ha hd =>
    rename_i c vs
    refine ⟨_, _, rfl, SqL.of (dl_some ha).2, q _ H1 m1 f1 ⟨fun H2 st i d e => ?_, fun H2 st => ⟨vs, SqL.of (st _ _ ha), by rw [enD_len, dqAll_len hd]; exact Nat.le_refl _⟩⟩⟩
    obtain ⟨y, hy, rfl⟩ := enD_get e
    obtain ⟨u, hu, du⟩ := dqAll_get hd hy
    refine ⟨⟨vs, u, SqL.of (st _ _ ha), hu⟩, fun x H3 yy => ?_⟩
    obtain ⟨T0, x0, rfl, hT, rfl, hx⟩ := yy
    have e0 := hx vs (SqL.of (st _ _ ha))
    rw [hu] at e0
    cases e0
    refine ⟨Same.new hT, fun T st2 tr => ?_⟩
    have nT : T0 ∉ T := fun z => by
      obtain ⟨o, eo⟩ := tr T0 z
      rw [hT] at eo; cases eo
    have e1 : ((0 + i : Nat) : Int) = ((i : Nat) : Int) := by omega
    rw [e1]
    exact Dq.tup (dl_of nT upd_same) (.cons (.int _) (.cons (dq_mono (st2.trans (dl_new hT)) _ _ du) .nil))
end

/-! ### targets -/
def wipeE (ρ : REnv) : List Nat → REnv
  | [] => ρ
  | v :: vs => (wipeE ρ vs).set v none
theorem sl_wipe {K : PySem.W.Frag} {H : Hp} {w : Wd} {σ : L2.St} {ρ : REnv} (h : Sl K H w σ ρ) : ∀ vs : List Nat, Sl K H w (wipe σ vs) (wipeE ρ vs)
  | [] => h
  | v :: vs => by
    have g := sl_wipe h vs
    refine ⟨by simp [wipe, wipeE, g.len], fun i r e => ?_⟩
    unfold wipeE at e
    unfold wipe
    by_cases hi : v = i
    · subst hi
      rw [List.getElem?_set] at e
      by_cases hl : v < (wipeE ρ vs).length
      · simp [hl] at e
      · simp [hl] at e
    · rw [List.getElem?_set_ne hi] at e
      rw [List.getElem?_set_ne hi]
      exact g.at_ i r e
theorem wipe_set : ∀ (σ : L2.St) (vs : List Nat) (i : Nat) (x : Option V), i ∈ vs → wipe (σ.set i x) vs = wipe σ vs
  | σ, [], i, x, h => absurd h (by simp)
  | σ, v :: vs, i, x, h => by
    unfold wipe
    by_cases hv : i ∈ vs
    · rw [wipe_set σ vs i x hv]
    · have e : i = v := (List.mem_cons.mp h).resolve_right hv
      subst e
      have g : ∀ (us : List Nat) (σ : L2.St), i ∉ us → wipe (σ.set i x) us = (wipe σ us).set i x := by
        intro us
        induction us with
        | nil => intro σ _; rfl
        | cons u us ih =>
          intro σ hn
          unfold wipe
          rw [ih σ (fun z => hn (List.mem_cons_of_mem _ z)), List.set_comm _ _ (fun z => hn (by rw [z]; exact List.mem_cons_self))]
      rw [g vs σ hv, List.set_set]
def GV (X : Cx) (tg : Expr) (d : PyData) (ρ ρ' : REnv) (is : List Nat) : Prop :=
  ∀ w σ H μ v, Mem X.K H w μ → Sl X.K H w σ ρ → Val X.K H w v (.dat d) → ∀ Q : L2.St → Hp → Prop, (∀ σ', Sl X.K H w σ' ρ' → wipe σ' is = wipe σ is → Q σ' H) → GX X tg v σ H Q
def GsV (X : Cx) (tg : List Expr) (ds : List PyData) (ρ ρ' : REnv) (is : List Nat) : Prop :=
  ∀ w σ H μ vs, Mem X.K H w μ → Sl X.K H w σ ρ → DqAll (dl H w.all) vs ds → ∀ Q : L2.St → Hp → Prop, (∀ σ', Sl X.K H w σ' ρ' → wipe σ' is = wipe σ is → Q σ' H) → GsX X tg vs σ H Q
section
variable {X : Cx} {ρ ρ1 ρ2 : REnv} {d : PyData} {ds : List PyData} {n : Str} {pos : Pos} {tg : Expr} {tgs : List Expr} {is : List Nat}
theorem GV.name {i : Nat} (hN : X.N.Nodup) (hi : X.N[i]? = some n) (hx : Loc X.env.scope n) (hm : i ∈ is) (hf : X.fn n = true ∨ X.env.scope.names.lookup n = some .local := by first | exact .inl rfl | exact .inr rfl | assumption) : GV X (.Name n pos) d ρ (ρ.set i (some (.dat d))) is := by
  intro w σ H μ v m s h Q q
  exact ⟨_, pg_name hN hi hx hf, q _ (s.set h) (wipe_set σ is i _ hm)⟩
theorem GsV.nil : GsV X [] [] ρ ρ is := by
  intro w σ H μ vs m s h Q q
  cases h
  exact ⟨_, pgs_nil, rfl, q σ s rfl⟩
theorem GsV.cons (h1 : GV X tg d ρ ρ1 is) (h2 : GsV X tgs ds ρ1 ρ2 is) (ha : (assignEach (tg :: tgs) X.env).map (·.2) = assign tg X.env :: (assignEach tgs X.env).map (·.2) := by rfl) : GsV X (tg :: tgs) (d :: ds) ρ ρ2 is := by
  intro w σ H μ vs m s h Q q
  cases h with
  | cons a b =>
    refine ⟨_, pgs_cons (p_gx (e := tg)) (p_gsx (e := tgs)) ha, ?_⟩
    refine ⟨_, _, rfl, h1 w σ H μ _ m s a _ fun σ1 s1 e1 => ?_⟩
    exact h2 w σ1 H μ _ m s1 b Q fun σ2 s2 e2 => q σ2 s2 (e2.trans e1)
theorem GV.tup {k : Nat} (h : GsV X tgs ds ρ ρ1 is) (hc : X.calm = true := by rfl) (hn : (assignEach tgs X.env).length = ds.length := by rfl) (hst : (assignEach tgs X.env).findIdx? (·.1) = none := by rfl) : GV X (.Tuple tgs k pos) (.tuple ds) ρ ρ1 is := by
  intro w σ H μ v m s hv Q q
  cases hv with
  | tup ha hd =>
    refine ⟨_, pg_tup hc (p_gsx (e := tgs)) hn hst, ?_⟩
    exact ⟨_, _, rfl, SqT.of (dl_some ha).2, dqAll_len hd, h w σ H μ _ m s hd Q q⟩
end
end J
/-! J4: comprehensions, slices, methods of texts, f-strings. -/
namespace J
open PySem PySem.Spec
open PyProof.Rows L2

section
variable {X : Cx} {ρ : REnv} {μ μ1 μ2 μ3 : Sto} {x y z r : Ent} {a b c e tg iter elt : Expr} {es : List Expr} {pos p2 p apos : Pos} {rs : List Ent} {ds out : List PyData} {d : PyData} {i j : Int} {s t n : Str} {k : Bool}
theorem EVF.ev (h : EVF X e ρ μ ds μ1) : EV X e ρ μ (Ls ds) μ1 := by
  intro w σ H m s Q q
  refine h w σ H m s Q fun p H' vs m' f hp e hd => ?_
  refine q _ H' m'.unkeep f ?_
  exact Dq.lst (dl_of (m.freshN hp) e) (dqAll_mono (dl_sub fun b hb => all_wk'.mpr (.inr hb)) _ _ hd)
theorem Sl.same2 {K : PySem.W.Frag} {H H' : Hp} {w : Wd} {D : Addr} {σ : L2.St} (h : Sl K H w σ ρ) (f : Same (dl H w.all) (dl H' (wk' w D).all)) : Sl K H' (wk' w D) σ ρ := ⟨h.len, fun i r e => by
  obtain ⟨v, a, b⟩ := h.at_ i r e
  refine ⟨v, a, ?_⟩
  cases r with
  | dat d => exact dq_mono f d v b
  | ptr k => exact b
  | obj C fs =>
    obtain ⟨x, dx, ws, e, hx, hn, hd⟩ := b
    exact ⟨x, dx, ws, e, f _ _ hx, hn, dqAll_mono f _ _ hd⟩
  | scr ns =>
    obtain ⟨a, e, hs⟩ := b
    exact ⟨a, e, Same.seq f hs⟩
  | raw u => exact b
  | exc a d fs =>
    obtain ⟨e, ws, hx, hn, hd⟩ := b
    exact ⟨e, ws, f _ _ hx, hn, dqAll_mono f _ _ hd⟩⟩
abbrev blkX (X : Cx) (scope : Scope) (s : Shared) (H : Hp) (C : Addr) (cl : List (Str × Addr)) (fp : List Addr) : Cx := X.blk s H scope (compEnvC scope cl C X.env) fp
def gC (X : Cx) (scope : Scope) (tg : Expr) : TG := fun v σ H Q => ∀ s H0 C cl fp, GX (blkX X scope s H0 C cl fp) tg v σ H Q
def ttC (X : Cx) (scope : Scope) (ifs : List Expr) : TT := fun σ H Q => (ifs = [] ∧ Q true H) ∨ ∃ c, ifs = [c] ∧ ∀ s H0 C cl fp, TX (blkX X scope s H0 C cl fp) c σ H Q
def teC (X : Cx) (scope : Scope) (elt : Expr) : TE := fun σ H Q => ∀ s H0 C cl fp, EX (blkX X scope s H0 C cl fp) elt σ H Q
theorem pg_C {scope : Scope} (s : Shared) (H : Hp) (C : Addr) (cl : List (Str × Addr)) (fp : List Addr) : PG (X.blk s H scope (compEnvC scope cl C X.env) fp) tg (gC X scope tg) :=
    ⟨fun pins s1 σ H1 v u Q I r h => (p_gx (X := blkX X scope s H C cl fp) (e := tg)).run pins s1 σ H1 v u Q I r (h s H C cl fp)⟩
theorem pts_C {scope : Scope} {ifs : List Expr} (s : Shared) (H : Hp) (C : Addr) (cl : List (Str × Addr)) (fp : List Addr) : PTs (X.blk s H scope (compEnvC scope cl C X.env) fp) ifs (ttC X scope ifs) :=
    ⟨fun pins s1 σ H1 Q I h => by
      rcases h with ⟨rfl, h⟩ | ⟨c, rfl, h⟩
      · exact pts_nil.run pins s1 σ H1 Q I h
      · exact (pts_one (p_tx (X := blkX X scope s H C cl fp) (e := c))).run pins s1 σ H1 Q I (h s H C cl fp)⟩
theorem pe_C {scope : Scope} (s : Shared) (H : Hp) (C : Addr) (cl : List (Str × Addr)) (fp : List Addr) : PE (X.blk s H scope (compEnvC scope cl C X.env) fp) elt (teC X scope elt) :=
    ⟨fun pins s1 σ H1 Q I h => (p_ex (X := blkX X scope s H C cl fp) (e := elt)).run pins s1 σ H1 Q I (h s H C cl fp)⟩
/-- what a comprehension comes to, as a reading -/
def LCV (X : Cx) (elt tg iter : Expr) (ifs : List Expr) (scope : Scope) (own : List (Str × Nat)) (ρ : REnv) (μ : Sto) (out : List PyData) (μ3 : Sto) : Prop :=
  ∀ w σ H, Mem X.K H w μ → Sl X.K H w σ ρ → ∀ Q : VK, (∀ p H' vs, Mem X.K H' (wk' w p) μ3 → Fr w.α H H' → Nw H p → H' p = some (.lst vs) → DqAll (dl H' (wk' w p).all) vs out → Q (.ref p) H') → tLc (IX X tg iter) (gC X scope tg) (ttC X scope ifs) (teC X scope elt) (own.map (·.2)) σ H Q
theorem LCV.mk {scope : Scope} {own : List (Str × Nat)} {ifs : List Expr} (hi : IV X tg iter ρ μ ds μ1) (Iv : Nat → List PyData → Sto → Prop) (h0 : Iv 0 [] μ1)
    (hs : ∀ i d acc μ, ds[i]? = some d → Iv i acc μ → ∃ ρ', (∀ s H C cl fp, GV (blkX X scope s H C cl fp) tg d (wipeE ρ (own.map (·.2))) ρ' (own.map (·.2))) ∧ ∃ (k : Bool) (μ2 : Sto), ((ifs = [] ∧ k = true ∧ μ2 = μ) ∨ ∃ c, ifs = [c] ∧ ∀ s H C cl fp, TV (blkX X scope s H C cl fp) c ρ' μ k μ2) ∧
      if k = true then ∃ y μ', (∀ s H C cl fp, EV (blkX X scope s H C cl fp) elt ρ' μ2 (.dat y) μ') ∧ Iv (i + 1) (acc ++ [y]) μ' else Iv (i + 1) acc μ2)
    (hd : ∀ acc μ, Iv ds.length acc μ → acc = out ∧ μ = μ3) (hl : ds.length ≤ 100000) : LCV X elt tg iter ifs scope own ρ μ out μ3 := by
  intro w σ H m s Q q
  refine hi w σ H m s _ fun J H1 m1 f1 wk => ?_
  intro D hD
  have hD0 : Nw H D := Nw.back f1 (Nw.of hD) (m1.fresh hD)
  -- between two turns
  refine ⟨fun i n H2 => n = ds.length - i ∧ i ≤ ds.length ∧ ∃ acc μa vs, Iv i acc μa ∧ acc.length ≤ i ∧ Mem X.K H2 (wk' w D) μa ∧ Fr w.α H1 (fun b => if b = D then none else H2 b) ∧ H2 D = some (.lst vs) ∧ DqAll (dl H2 (wk' w D).all) vs acc, ⟨ds.length, by simp, Nat.zero_le _, [], μ1, [], h0, by simp, m1.keep hD, fun b o e hb _ => ?_, upd_same, .nil⟩, ?_⟩
  · have : b ≠ D := ne_of_none e hD
    simp [this, upd_ne this, e]
  rintro i n H2 ⟨rfl, hi', acc, μa, vs, iv, hla, m2, f2, e2, hd2⟩
  have fr2 : ∀ b o, H1 b = some o → b ∉ w.α → Nt o → H2 b = some o := fun b o e hb nt => by
    have : (if b = D then none else H2 b) = some o := f2 b o e hb nt
    by_cases z : b = D
    · rw [if_pos z] at this; cases this
    · rwa [if_neg z] at this
  have g12 : Same (dl H1 w.all) (dl H2 (wk' w D).all) := keep_out (K := X.K) hD fr2 ⟨_, e2⟩
  have g12' : Same (dl H1 w.all) H2 := g12.trans dl_same
  by_cases hlt : i < ds.length
  · obtain ⟨d, hdi⟩ : ∃ d, ds[i]? = some d := ⟨ds[i], by simp [hlt]⟩
    obtain ⟨go, yl⟩ := wk.go H2 g12' i d hdi
    refine .inr ⟨go, fun H' => ∃ acc μa vs, Iv (i + 1) acc μa ∧ acc.length ≤ i + 1 ∧ Mem X.K H' (wk' w D) μa ∧ Fr w.α H1 (fun b => if b = D then none else H' b) ∧ H' D = some (.lst vs) ∧ DqAll (dl H' (wk' w D).all) vs acc, fun H' h => ⟨ds.length - (i + 1), by omega, rfl, hlt, h⟩, fun x H3 y3 => ?_⟩
    obtain ⟨s23, dx⟩ := yl x H3 y3
    have dx3 : Dq (dl H3 (wk' w D).all) x d := dx _ g12 fun b hb => (all_wk'.mp hb).elim (fun z => z ▸ ⟨_, e2⟩) fun hb => (List.mem_append.mp hb).elim (fun z => (m2.there z).elim fun vs e => ⟨_, e⟩) fun z => m2.ex1 (List.mem_cons_of_mem _ z)
    have m3 := m2.same s23
    have f23 : Fr (wk' w D).α H2 H3 := Fr.of_same s23
    have sl3 : Sl X.K H3 (wk' w D) (wipe σ (own.map (·.2))) (wipeE ρ (own.map (·.2))) := (sl_wipe ((s.fr f1).same2 g12) _).fr f23
    obtain ⟨ρ', hgv, kt, μt, htv, rest⟩ := hs i d acc μa hdi iv
    intro s' H0 C cl fp
    refine hgv s' H0 C cl fp _ _ H3 μa x m3 sl3 dx3 _ fun σ4 sl4 ew => ⟨ew.trans (by
      have : ∀ (vs : List Nat) (σ : L2.St), wipe (wipe σ vs) vs = wipe σ vs := by
        intro vs
        have aux : ∀ (us : List Nat) (σ : L2.St), (∀ u ∈ us, u ∈ vs) → wipe (wipe σ us) vs = wipe σ vs := by
          intro us
          induction us with
          | nil => intro σ _; rfl
          | cons u us ih =>
            intro σ hu
            show wipe ((wipe σ us).set u none) vs = wipe σ vs
            rw [wipe_set _ _ _ _ (hu u List.mem_cons_self)]
            exact ih σ fun z hz => hu z (List.mem_cons_of_mem _ hz)
        exact fun σ => aux vs σ fun u h => h
      exact this _ σ), ?_⟩
    -- behind the target
    have fin : ∀ (k : Bool) (H5 : Hp), Mem X.K H5 (wk' w D) μt → Fr w.α H3 H5 → k = kt → (if k = true then (∀ s H0 C cl fp, EX (blkX X scope s H0 C cl fp) elt σ4 H5 fun y H4 => ∃ acc, H4 D = some (.lst acc) ∧ acc.length < sizeLine ∧ ∃ acc' μa vs, Iv (i + 1) acc' μa ∧ acc'.length ≤ i + 1 ∧ Mem X.K (upd H4 D (.lst (acc ++ [y]))) (wk' w D) μa ∧ Fr w.α H1 (fun b => if b = D then none else (upd H4 D (.lst (acc ++ [y]))) b) ∧ (upd H4 D (.lst (acc ++ [y]))) D = some (.lst vs) ∧ DqAll (dl (upd H4 D (.lst (acc ++ [y]))) (wk' w D).all) vs acc')
        else ∃ acc μa vs, Iv (i + 1) acc μa ∧ acc.length ≤ i + 1 ∧ Mem X.K H5 (wk' w D) μa ∧ Fr w.α H1 (fun b => if b = D then none else H5 b) ∧ H5 D = some (.lst vs) ∧ DqAll (dl H5 (wk' w D).all) vs acc) := by
      intro k H5 m5 f35 ek
      subst ek
      have hDa : D ∉ w.α := m2.out D List.mem_cons_self
      have e5 : H5 D = some (.lst vs) := f35 D _ (s23 _ _ e2) hDa (fun q z => by cases z)
      have g25 : Same (dl H2 (wk' w D).all) (dl H5 (wk' w D).all) := Fr.all (w := wk' w D) (f23.trans f35)
      cases k with
      | false =>
        refine iteF ?_
        refine ⟨acc, μt, vs, by simpa using rest, Nat.le_succ_of_le hla, m5, fun b o e hb nt => ?_, e5, dqAll_mono g25 _ _ hd2⟩
        have nb : b ≠ D := ne_of_none e hD
        simp only [nb, if_false]
        exact (f23.trans f35) b o (fr2 b o e hb nt) hb nt
      | true =>
        refine iteT ?_
        intro s' H0 C cl fp
        obtain ⟨y, μ', hev, ivn⟩ := (by simpa using rest : ∃ y μ', (∀ s H C cl fp, EV (blkX X scope s H C cl fp) elt ρ' μt (.dat y) μ') ∧ Iv (i + 1) (acc ++ [y]) μ')
        refine hev s' H0 C cl fp (wk' w D) σ4 H5 m5 (sl4.fr f35) _ fun v H6 m6 f56 hv => ?_
        have e6 : H6 D = some (.lst vs) := f56 D _ e5 hDa (fun q z => by cases z)
        have g56 : Same (dl H5 (wk' w D).all) (dl H6 (wk' w D).all) := Fr.all (w := wk' w D) f56
        refine ⟨vs, e6, ?_, acc ++ [y], μ', vs ++ [v], ivn, by simp; exact hla, m6.outs, fun b o e hb nt => ?_, upd_same, dqAll_append (dqAll_mono ((g25.trans g56).trans same_outs) _ _ hd2) (.cons (dq_mono same_outs _ _ hv) .nil)⟩
        · rw [dqAll_len hd2]
          exact Nat.lt_of_le_of_lt (Nat.le_trans hla (Nat.le_of_lt (Nat.lt_of_lt_of_le hlt hl))) (by decide)
        · have nb : b ≠ D := ne_of_none e hD
          simp only [nb, if_false, upd_ne nb]
          exact ((f23.trans f35).trans f56) b o (fr2 b o e hb nt) hb nt
    rcases htv with ⟨hi0, rfl, rfl⟩ | ⟨c, hi1, htv⟩
    · exact .inl ⟨hi0, fin true H3 m3 Fr.refl rfl⟩
    · exact .inr ⟨c, hi1, fun s' H0 C cl fp => htv s' H0 C cl fp (wk' w D) σ4 H3 m3 sl4 _ fun H5 m5 f35 => fin kt H5 m5 f35 rfl⟩
  · have ei : i = ds.length := by omega
    subst ei
    obtain ⟨rfl, rfl⟩ := hd acc μa iv
    refine .inl ⟨wk.stop H2 g12', ?_⟩
    exact q D H2 vs m2 (f1.trans fr2) hD0 e2 hd2
theorem LCV.evf {scope : Scope} {own : List (Str × Nat)} {ifs : List Expr} (h : LCV X elt tg iter ifs scope own ρ μ out μ3) (hc : X.calm = true) (hN : X.N.Nodup) (ok : BlkOk X.N X.env.scope scope own) (hst : ∀ x, foldedSetIterable iter X.env x = pure x := by intro _; rfl) : EVF X (.ListComp elt [⟨tg, iter, ifs, 0⟩] scope pos) ρ μ out μ3 :=
  fun w σ H m s Q q => ⟨_, pe_lc hc hN (p_ix (tg := tg) (e := iter)) ok pg_C pts_C pe_C hst, h w σ H m s Q q⟩
/-- no test; the element by the item alone -/
theorem LCV.map {scope : Scope} {own : List (Str × Nat)} (f : PyData → PyData) (hi : IV X tg iter ρ μ ds μ1)
    (hs : ∀ d ∈ ds, ∃ ρ', (∀ s H C cl fp, GV (blkX X scope s H C cl fp) tg d (wipeE ρ (own.map (·.2))) ρ' (own.map (·.2))) ∧ (∀ s H C cl fp, EV (blkX X scope s H C cl fp) elt ρ' μ1 (.dat (f d)) μ1))
    (hl : ds.length ≤ 100000) : LCV X elt tg iter [] scope own ρ μ (ds.map f) μ1 := by
  refine LCV.mk hi (fun i acc μ => acc = (ds.take i).map f ∧ μ = μ1) ⟨by simp, rfl⟩ (fun i d acc μ e h => ?_) (fun acc μ h => ⟨by simpa using h.1, h.2⟩) hl
  obtain ⟨rfl, rfl⟩ := h
  obtain ⟨ρ', h1, h2⟩ := hs d (List.mem_iff_getElem?.mpr ⟨i, e⟩)
  refine ⟨ρ', h1, true, _, .inl ⟨rfl, rfl, rfl⟩, iteT ⟨f d, _, h2, ?_, rfl⟩⟩
  rw [List.take_succ, e]
  simp
end
end J
/-! J5: slices, methods of texts, f-strings, statements, defs. -/
namespace J
open PySem PySem.Spec
open PyProof.Rows L2

section
variable {X : Cx} {ρ : REnv} {μ μ1 μ2 μ3 : Sto} {x y z r : Ent} {a b c e o tg iter elt : Expr} {es : List Expr} {pos p2 p apos : Pos} {rs : List Ent} {ds out : List PyData} {d : PyData} {i j : Int} {s t n : Str} {k : Bool}
theorem EV.un {op : UnaryOp} {q : V → Hp → VK → Prop} (ho : UnR X (unaryOp op) q) (ha : EV X a ρ μ x μ1) (h : ∀ w H v, Mem X.K H w μ1 → Val X.K H w v x → ∃ t, Val X.K H w t z ∧ ∀ Q : VK, Q t H → q v H Q) : EV X (.UnaryOp op a pos) ρ μ z μ1 := by
  intro w σ H m s Q qq
  refine ⟨_, pe_un ho (p_ex (e := a)), ?_⟩
  refine ha w σ H m s _ fun v H1 m1 f1 h1 => ?_
  obtain ⟨t, ht, hr⟩ := h w H1 v m1 h1
  exact hr _ (qq t H1 m1 f1 ht)
theorem EV.neg (ha : EV X a ρ μ (Ii i) μ1) : EV X (.UnaryOp .USub a pos) ρ μ (Ii (-i)) μ1 := ha.un un_neg fun w H v m h => by
  cases h
  exact ⟨_, Dq.int _, fun Q q => ⟨i, rfl, q⟩⟩
/-! ### slices -/
def PartV (X : Cx) (e : Option Expr) (ρ : REnv) (μ : Sto) (o : Option Int) (μ' : Sto) : Prop := ∀ w σ H, Mem X.K H w μ → Sl X.K H w σ ρ → ∀ Q : Option Int → Hp → Prop, (∀ H', Mem X.K H' w μ' → Fr w.α H H' → Q o H') → OX X e σ H Q
theorem PartV.none : PartV X none ρ μ none μ := fun w σ H m s Q q => ⟨_, po_none, q H m .refl⟩
theorem PartV.some (h : EV X e ρ μ (Ii i) μ1) : PartV X (some e) ρ μ (some i) μ1 := by
  intro w σ H m s Q q
  refine ⟨_, po_some (p_ex (e := e)), ?_⟩
  refine h w σ H m s _ fun v H1 m1 f1 h1 => ?_
  cases h1
  exact ⟨i, rfl, q H1 m1 f1⟩
def cutD (xs : List PyData) (lo hi : Option Int) : List PyData := (xs.drop (HT.sIx xs.length 0 lo)).take (HT.sIx xs.length xs.length hi - HT.sIx xs.length 0 lo)
theorem dq_cut {H : Hp} {vs : List V} (h : DqAll H vs ds) (lo hi : Option Int) : DqAll H (cutV vs lo hi) (cutD ds lo hi) := by
  unfold cutV cutD
  rw [dqAll_len h]
  exact dqAll_take _ (dqAll_drop _ h)
theorem sIx_le {n : Nat} {lo : Option Int} : HT.sIx n 0 lo = 0 ∧ True → True := fun _ => trivial
theorem EV.slT {lo hi : Option Expr} {l h : Option Int} (ha : EV X a ρ μ (Tp ds) μ1) (hl : PartV X lo ρ μ1 l μ2) (hh : PartV X hi ρ μ2 h μ3) : EV X (.Subscript a (.Slice lo hi none p2) pos) ρ μ (Tp (cutD ds l h)) μ3 := by
  intro w σ H m s Q q
  refine ⟨_, pe_slice sl_tupA (p_ex (e := a)) (p_ox (e := lo)) (p_ox (e := hi)), ?_⟩
  refine ha w σ H m s _ fun v H1 m1 f1 h1 => ?_
  refine hl w σ H1 m1 (s.fr f1) _ fun H2 m2 f2 => ?_
  refine hh w σ H2 m2 ((s.fr f1).fr f2) _ fun H3 m3 f3 => ?_
  have h3 := (h1.fr f2).fr f3
  have h3' := h3
  cases h3 with
  | tup hs hd =>
    refine ⟨_, _, rfl, SqT.of (dl_some hs).2, fun z => ?_, fun _ => new_tup m3 (dq_cut hd l h) fun v H4 m4 f4 h4 => q v H4 m4 (((f1.trans f2).trans f3).trans f4) h4⟩
    have e : cutD ds l h = ds := by
      unfold cutD
      rw [← dqAll_len hd, z.1, z.2]
      simp [dqAll_len hd]
    rw [e] at q
    exact q _ H3 m3 ((f1.trans f2).trans f3) h3'
theorem EV.slL {lo hi : Option Expr} {l h : Option Int} (ha : EV X a ρ μ (Ls ds) μ1) (hl : PartV X lo ρ μ1 l μ2) (hh : PartV X hi ρ μ2 h μ3) : EV X (.Subscript a (.Slice lo hi none p2) pos) ρ μ (Ls (cutD ds l h)) μ3 := by
  intro w σ H m s Q q
  refine ⟨_, pe_slice sl_list (p_ex (e := a)) (p_ox (e := lo)) (p_ox (e := hi)), ?_⟩
  refine ha w σ H m s _ fun v H1 m1 f1 h1 => ?_
  refine hl w σ H1 m1 (s.fr f1) _ fun H2 m2 f2 => ?_
  refine hh w σ H2 m2 ((s.fr f1).fr f2) _ fun H3 m3 f3 => ?_
  have h3 := (h1.fr f2).fr f3
  cases h3 with
  | lst hs hd => exact ⟨_, _, rfl, SqL.of (dl_some hs).2, new_lst m3 (dq_cut hd l h) fun v H4 m4 f4 h4 => q v H4 m4 (((f1.trans f2).trans f3).trans f4) h4⟩
theorem EV.slS {lo hi : Option Expr} {l h : Option Int} (ha : EV X a ρ μ (Ss t) μ1) (hl : PartV X lo ρ μ1 l μ2) (hh : PartV X hi ρ μ2 h μ3) (hz : t.length ≤ sizeLine) : EV X (.Subscript a (.Slice lo hi none p2) pos) ρ μ (Ss (cutS t l h)) μ3 := by
  intro w σ H m s Q q
  refine ⟨_, pe_slice sl_str (p_ex (e := a)) (p_ox (e := lo)) (p_ox (e := hi)), ?_⟩
  refine ha w σ H m s _ fun v H1 m1 f1 h1 => ?_
  refine hl w σ H1 m1 (s.fr f1) _ fun H2 m2 f2 => ?_
  refine hh w σ H2 m2 ((s.fr f1).fr f2) _ fun H3 m3 f3 => ?_
  cases h1
  exact ⟨t, rfl, hz, q _ H3 m3 ((f1.trans f2).trans f3) (Dq.str _)⟩
/-- the script's slice is a list of its own -/
theorem EV.slScr {lo hi : Option Expr} {l h : Option Int} {ns : List Int} (ha : EV X a ρ μ (.scr ns) μ1) (hl : PartV X lo ρ μ1 l μ2) (hh : PartV X hi ρ μ2 h μ3) : EV X (.Subscript a (.Slice lo hi none p2) pos) ρ μ (Ls (cutD (ns.map .int) l h)) μ3 := by
  intro w σ H m s Q q
  refine ⟨_, pe_slice sl_list (p_ex (e := a)) (p_ox (e := lo)) (p_ox (e := hi)), ?_⟩
  refine ha w σ H m s _ fun v H1 m1 f1 h1 => ?_
  refine hl w σ H1 m1 (s.fr f1) _ fun H2 m2 f2 => ?_
  refine hh w σ H2 m2 ((s.fr f1).fr f2) _ fun H3 m3 f3 => ?_
  obtain ⟨a0, rfl, hs⟩ := (h1.fr f2).fr f3
  have hd : ∀ (ns : List Int), DqAll (dl H3 w.all) (ns.map V.int) (ns.map .int) := by
    intro ns
    induction ns with
    | nil => exact .nil
    | cons n ns ih => exact .cons (.int n) ih
  exact ⟨_, _, rfl, Same.seq dl_same hs, new_lst m3 (dq_cut (hd ns) l h) fun v H4 m4 f4 h4 => q v H4 m4 (((f1.trans f2).trans f3).trans f4) h4⟩
/-! ### methods of texts -/
theorem EV.m1 {id : String} {q : V → List V → Hp → VK → Prop} (slot : Slot "str" n id) (ty : typeOf (.builtin id) = pure (.type "method_descriptor")) (rule : MtR X id q) (ho : EV X o ρ μ (Ss s) μ1) (he : EV X e ρ μ1 y μ2)
    (h : ∀ w H u, Mem X.K H w μ2 → Val X.K H w u y → ∀ Q : VK, (∀ t H', Mem X.K H' w μ2 → Fr w.α H H' → Val X.K H' w t z → Q t H') → q (.str s) [u] H Q)
    (hs : starEach [e] X.env = [(false, eval e X.env)] := by rfl) (hbase : attributeBase o n X.env (eval o X.env) = eval o X.env := by rfl) (hline : (apos.endLine == pos.line) = true := by rfl) : EV X (.Call (.Attribute o n apos) [e] [] pos) ρ μ z μ2 := by
  intro w σ H m s' Q qq
  refine ⟨_, pe_m1 slot ty rule (p_ex (e := o)) (p_ex (e := e)) hs hbase hline, ?_⟩
  refine ho w σ H m s' _ fun v H1 m1 f1 h1 => ?_
  cases h1
  refine ⟨⟨s, rfl⟩, ?_⟩
  refine he w σ H1 m1 (s'.fr f1) _ fun u H2 m2 f2 h2 => ?_
  exact h w H2 u m2 h2 Q fun t H3 m3 f3 h3 => qq t H3 m3 ((f1.trans f2).trans f3) h3
theorem EV.split (ho : EV X o ρ μ (Ss s) μ1) (he : EV X e ρ μ1 (Ss t) μ2) (h1 : (t.length == 0) = false) (h2 : s.length + 2 ≤ sizeLine)
    (hs : starEach [e] X.env = [(false, eval e X.env)] := by rfl) (hbase : attributeBase o "split" X.env (eval o X.env) = eval o X.env := by rfl) (hline : (apos.endLine == pos.line) = true := by rfl) : EV X (.Call (.Attribute o "split" apos) [e] [] pos) ρ μ (Ls ((Txt.split s t).map .str)) μ2 :=
  EV.m1 F.slot_str_split F.type_str_split mt_split ho he (fun w H u m hu Q q => by
    cases hu
    exact ⟨s, t, rfl, rfl, h1, h2, new_lst m (dqAll_strs _) q⟩) hs hbase hline
theorem EV.partition (ho : EV X o ρ μ (Ss s) μ1) (he : EV X e ρ μ1 (Ss t) μ2) (h1 : (t.length == 0) = false) (h2 : s.length ≤ sizeLine)
    (hs : starEach [e] X.env = [(false, eval e X.env)] := by rfl) (hbase : attributeBase o "partition" X.env (eval o X.env) = eval o X.env := by rfl) (hline : (apos.endLine == pos.line) = true := by rfl) :
    EV X (.Call (.Attribute o "partition" apos) [e] [] pos) ρ μ (Tp [.str (Txt.partition s t).1, .str (Txt.partition s t).2.1, .str (Txt.partition s t).2.2]) μ2 :=
  EV.m1 F.slot_str_partition F.type_str_partition mt_partition ho he (fun w H u m hu Q q => by
    cases hu
    exact ⟨s, t, rfl, rfl, h1, h2, new_tup m (.cons (.str _) (.cons (.str _) (.cons (.str _) .nil))) q⟩) hs hbase hline
theorem EV.join {ys : List Str} (ho : EV X o ρ μ (Ss s) μ1) (he : EV X e ρ μ1 (Ls (ys.map .str)) μ2) (h1 : (ys.map (·.length)).sum + ys.length * s.length ≤ 16777216)
    (hs : starEach [e] X.env = [(false, eval e X.env)] := by rfl) (hbase : attributeBase o "join" X.env (eval o X.env) = eval o X.env := by rfl) (hline : (apos.endLine == pos.line) = true := by rfl) : EV X (.Call (.Attribute o "join" apos) [e] [] pos) ρ μ (Ss (Txt.join s ys)) μ2 :=
  EV.m1 F.slot_str_join F.type_str_join mt_join ho he (fun w H u m hu Q q => by
    cases hu with
    | lst ha hd =>
      rw [dqAll_strs' hd] at ha
      exact ⟨s, _, ys, rfl, rfl, .inl (SqL.of (dl_some ha).2), h1, q _ _ m .refl (Dq.str _)⟩) hs hbase hline
theorem EV.joinC {ys : List Str} {n0 : Nat} (ho : EV X o ρ μ (Ss s) μ1) (he : EV X e ρ μ1 (.ptr n0) μ2) (hn : μ2[n0]? = some (ys.map .str)) (h1 : (ys.map (·.length)).sum + ys.length * s.length ≤ 16777216)
    (hs : starEach [e] X.env = [(false, eval e X.env)] := by rfl) (hbase : attributeBase o "join" X.env (eval o X.env) = eval o X.env := by rfl) (hline : (apos.endLine == pos.line) = true := by rfl) : EV X (.Call (.Attribute o "join" apos) [e] [] pos) ρ μ (Ss (Txt.join s ys)) μ2 :=
  EV.m1 F.slot_str_join F.type_str_join mt_join ho he (fun w H u m hu Q q => by
    obtain ⟨p, hp, rfl⟩ := hu
    obtain ⟨vs, hb, hd⟩ := m.cell n0 p _ hp hn
    rw [dqAll_strs' hd] at hb
    exact ⟨s, _, ys, rfl, rfl, .inl (SqL.of hb), h1, q _ _ m .refl (Dq.str _)⟩) hs hbase hline
/-! ### f-strings -/
theorem EV.fmtS (h : EV X e ρ μ (Ss s) μ1) (hz : s.length ≤ sizeLine) : EV X (.FormattedValue e (-1) none pos) ρ μ (Ss s) μ1 := by
  intro w σ H m s' Q q
  refine ⟨_, pe_fmt (p_ex (e := e)), ?_⟩
  refine h w σ H m s' _ fun v H1 m1 f1 h1 => ?_
  cases h1
  exact .inl ⟨s, rfl, hz, q _ H1 m1 f1 (Dq.str _)⟩
theorem EV.fmtI (h : EV X e ρ μ (Ii i) μ1) (hz : i.natAbs.log2 < 1920) : EV X (.FormattedValue e (-1) none pos) ρ μ (Ss (toString i : String)) μ1 := by
  intro w σ H m s' Q q
  refine ⟨_, pe_fmt (p_ex (e := e)), ?_⟩
  refine h w σ H m s' _ fun v H1 m1 f1 h1 => ?_
  cases h1
  exact .inr ⟨i, rfl, hz, q _ H1 m1 f1 (Dq.str _)⟩
theorem pj_ex : ∀ es : List Expr, PJ X es (es.map (EX X))
  | [] => .nil
  | e :: es => .cons p_ex (pj_ex es)
/-- the parts, the heap and the store as they are but for new objects -/
inductive JV (X : Cx) (ρ : REnv) (μ : Sto) : List Expr → List Str → Prop where
  | nil : JV X ρ μ [] []
  | cons {e : Expr} {s : Str} {es : List Expr} {ss : List Str} (h : EV X e ρ μ (Ss s) μ) (r : JV X ρ μ es ss) : JV X ρ μ (e :: es) (s :: ss)
def catS : Str → List Str → Str
  | acc, [] => acc
  | acc, s :: ss => catS (acc ++ s) ss
def fitS : Str → List Str → Prop
  | _, [] => True
  | acc, s :: ss => (acc ++ s).length ≤ sizeLine ∧ fitS (acc ++ s) ss
theorem jv_run (w : Wd) : ∀ {es : List Expr} {ss : List Str}, JV X ρ μ es ss → ∀ (acc : Str) (σ : L2.St) (H : Hp) (Q : Str → Hp → Prop), Mem X.K H w μ → Sl X.K H w σ ρ → fitS acc ss → (∀ H', Mem X.K H' w μ → Fr w.α H H' → Q (catS acc ss) H') → tJs (es.map (EX X)) acc σ H Q
  | [], _, .nil, acc, σ, H, Q, m, s, _, q => q H m .refl
  | e :: es, _, .cons h r, acc, σ, H, Q, m, s, f, q => by
    show EX X e σ H _
    refine h w σ H m s _ fun v H1 m1 f1 h1 => ?_
    cases h1
    exact ⟨_, rfl, f.1, jv_run w r _ σ H1 Q m1 (s.fr f1) f.2 fun H2 m2 f2 => q H2 m2 (f1.trans f2)⟩
theorem EV.joined {v1 v2 : Expr} {rest : List Expr} {ss : List Str} (h : JV X ρ μ (v1 :: v2 :: rest) ss) (hf : fitS Str.empty ss) : EV X (.JoinedStr (v1 :: v2 :: rest) pos) ρ μ (Ss (catS Str.empty ss)) μ := by
  intro w σ H m s Q q
  exact ⟨_, pe_joined (pj_ex _), jv_run w h Str.empty σ H _ m s hf fun H' m' f' => q _ H' m' f' (Dq.str _)⟩
end

/-! ### statements -/
inductive Out where
  | nx (ρ : REnv) (μ : Sto)
  | ret (r : Ent) (μ : Sto)
  | brk (ρ : REnv) (μ : Sto)
  | ct (ρ : REnv) (μ : Sto)
  | rse (ρ : REnv) (μ : Sto) (C : Addr) (fs : List (Str × PyData))
/-- the wish of a block that lets nothing out -/
abbrev W0 : WX := fun _ _ _ _ => False
/-- an exception's own dict, or none -/
def Xd (H : Hp) (w : Wd) (od : Option Addr) (fs : List (Str × PyData)) : Prop := match od with
  | none => fs = []
  | some d => ∃ ws : List (Str × V), H d = some (.xd ws) ∧ d ∉ w.all ∧ ws.map (·.1) = fs.map (·.1) ∧ DqAll (dl H w.all) (ws.map (·.2)) (fs.map (·.2))
abbrev Wd.add (w : Wd) (β : List Addr) : Wd := ⟨w.α ++ β, w.ξ⟩
abbrev Wd.cut (w : Wd) (n : Nat) : Wd := ⟨w.α.take n, w.ξ⟩
def Nx (X : Cx) (w : Wd) (H : Hp) (k : Wd → L2.St → Hp → Prop) (ρ : REnv) (μ : Sto) : Prop := ∀ β σ H', Mem X.K H' (w.add β) μ → Sl X.K H' (w.add β) σ ρ → Fr w.α H H' → (∀ b ∈ β, Nw H b) → k (w.add β) σ H'
def Fin (X : Cx) (W : WX) (n : Nat) (w : Wd) (H : Hp) (D : Ends) : Out → Prop
  | .nx ρ μ => Nx X w H (fun _ => D.nx) ρ μ
  | .brk ρ μ => Nx X w H (fun _ => D.bk) ρ μ
  | .ct ρ μ => Nx X w H (fun _ => D.ct) ρ μ
  | .ret r μ => ∀ v H', Mem X.K H' (w.cut n) μ → Fr w.α H H' → Val X.K H' (w.cut n) v r → D.rt v H'
  | .rse ρ μ C fs => ∀ od, Nx X w H (fun w' σ H' => Xd H' w' od fs → W (.ref C) od σ H') ρ μ
def ST (X : Cx) (W : WX) (n : Nat) (sts : List Stmt) (ρ : REnv) (μ : Sto) (P : Out → Prop) : Prop :=
  ∀ w σ H D, n ≤ w.α.length → Mem X.K H w μ → Sl X.K H w σ ρ → (∀ o, P o → Fin X W n w H D o) → SX X sts D σ H
section
variable {X : Cx} {W : WX} {n : Nat} {w : Wd} {H H' : Hp} {D : Ends} {o : Out} {β : List Addr} {k : Wd → L2.St → Hp → Prop} {ρ : REnv} {μ : Sto}
theorem wd_add_add {β β' : List Addr} : (w.add β).add β' = w.add (β ++ β') := by simp [Wd.add]
theorem Nx.grow (h : Nx X w H k ρ μ) (f : Fr w.α H H') (hb : ∀ b ∈ β, Nw H b) : Nx X (w.add β) H' k ρ μ := by
  intro β' σ H2 m s f2 hb2
  rw [wd_add_add] at m s ⊢
  refine h (β ++ β') σ H2 m s (fun b o e hn nt => ?_) fun b hb3 => ?_
  · refine f2 b o (f b o e hn nt) (fun z => ?_) nt
    rcases List.mem_append.mp z with z | z
    · exact hn z
    · exact hb b z o e nt
  · rcases List.mem_append.mp hb3 with z | z
    · exact hb b z
    · refine Nw.back f (hb2 b z) fun y => ?_
      have nd := m.nd
      have : b ∈ w.α ∧ b ∈ β ++ β' := ⟨y, List.mem_append_right _ z⟩
      exact (List.nodup_append.mp nd).2.2 b this.1 b this.2 rfl
theorem take_add {n : Nat} (hn : n ≤ w.α.length) : (w.add β).cut n = w.cut n := by
  show (⟨(w.α ++ β).take n, w.ξ⟩ : Wd) = ⟨w.α.take n, w.ξ⟩
  rw [List.take_append_of_le_length hn]
theorem Fin.grow (h : Fin X W n w H D o) (hn : n ≤ w.α.length) (f : Fr w.α H H') (hb : ∀ b ∈ β, Nw H b) : Fin X W n (w.add β) H' D o := by
  cases o with
  | nx ρ μ => exact Nx.grow (X := X) (k := fun _ => D.nx) h f hb
  | brk ρ μ => exact Nx.grow (X := X) (k := fun _ => D.bk) h f hb
  | ct ρ μ => exact Nx.grow (X := X) (k := fun _ => D.ct) h f hb
  | rse ρ μ C fs => exact fun od => Nx.grow (X := X) (h od) f hb
  | ret r μ =>
    intro v H2 m f2 hv
    rw [take_add hn] at m hv
    refine h v H2 m (fun b o e hn nt => ?_) hv
    refine f2 b o (f b o e hn nt) (fun z => ?_) nt
    rcases List.mem_append.mp z with z | z
    · exact hn z
    · exact hb b z o e nt
theorem add_nil : w.add [] = w := by simp [Wd.add]
theorem Fin.step (h : Fin X W n w H D o) (hn : n ≤ w.α.length) (f : Fr w.α H H') : Fin X W n w H' D o := by
  have := Fin.grow (β := []) h hn f fun b hb => absurd hb (by simp)
  rwa [add_nil] at this
end
/-- what is handed out of the def: a list of its own is data then -/
def frz (n : Nat) (μ : Sto) : Ent → Ent
  | .ptr k => if k < n then .ptr k else .dat (.list (μ.getD k []))
  | r => r
theorem val_frz {K : PySem.W.Frag} {H : Hp} {w : Wd} {μ : Sto} {v : V} {r : Ent} {n : Nat} (m : Mem K H w μ) (h : Val K H w v r) : Val K H (w.cut n) v (frz n μ r) := by
  have sub : Same (dl H w.all) (dl H (w.cut n).all) := dl_sub fun b hb => (List.mem_append.mp hb).elim (fun z => List.mem_append_left _ (List.mem_of_mem_take z)) fun z => List.mem_append_right _ z
  cases r with
  | dat d => exact dq_mono sub _ _ h
  | obj C fs =>
    obtain ⟨x, dx, ws, e, hx, hn, hd⟩ := h
    exact ⟨x, dx, ws, e, sub _ _ hx, hn, dqAll_mono sub _ _ hd⟩
  | scr ns =>
    obtain ⟨a, e, hs⟩ := h
    exact ⟨a, e, Same.seq sub hs⟩
  | raw u => exact h
  | exc a d fs =>
    obtain ⟨e, ws, hx, hn, hd⟩ := h
    exact ⟨e, ws, sub _ _ hx, hn, dqAll_mono sub _ _ hd⟩
  | ptr k =>
    obtain ⟨a, ha, rfl⟩ := h
    show Val K H (w.cut n) (V.ref a) (if k < n then Ent.ptr k else Ent.dat (PyData.list (List.getD μ k [])))
    by_cases hk : k < n
    · rw [if_pos hk]
      exact ⟨a, by rw [List.getElem?_take, if_pos hk]; exact ha, rfl⟩
    · rw [if_neg hk]
      have hl : k < μ.length := by rw [← m.len]; exact (List.getElem?_eq_some_iff.mp ha).1
      obtain ⟨vs, e, hd⟩ := m.cell k a μ[k] ha (by simp [hl])
      have e2 : μ.getD k [] = μ[k] := by simp [List.getD, hl]
      rw [e2]
      refine Dq.lst (dl_of (fun z => ?_) e) (dqAll_mono sub _ _ hd)
      rcases List.mem_append.mp z with z | z
      · obtain ⟨j, hj, ej⟩ := List.mem_take_iff_getElem.mp z
        obtain ⟨hkl, hke⟩ := List.getElem?_eq_some_iff.mp ha
        exact List.pairwise_iff_getElem.mp m.nd j k (by omega) hkl (by omega) (by rw [ej, hke])
      · exact m.out a z (List.mem_iff_getElem?.mpr ⟨k, ha⟩)
theorem Mem.cut {K : PySem.W.Frag} {H : Hp} {w : Wd} {μ : Sto} (m : Mem K H w μ) (n : Nat) : Mem K H (w.cut n) (μ.take n) := by
  have sub : Same (dl H w.all) (dl H (w.cut n).all) := dl_sub fun b hb => (List.mem_append.mp hb).elim (fun z => List.mem_append_left _ (List.mem_of_mem_take z)) fun z => List.mem_append_right _ z
  refine ⟨m.nd.sublist (List.take_sublist _ _), by simp [m.len], fun k a xs h1 h2 => ?_, fun b hb z => m.out b hb (List.mem_of_mem_take z), m.ext, m.tab⟩
  rw [List.getElem?_take] at h1 h2
  by_cases hk : k < n
  · rw [if_pos hk] at h1 h2
    obtain ⟨vs, e, hd⟩ := m.cell k a xs h1 h2
    exact ⟨vs, e, dqAll_mono sub _ _ hd⟩
  · rw [if_neg hk] at h1
    cases h1
section
variable {X : Cx} {W : WX} {n : Nat} {ρ ρ1 : REnv} {μ μ1 μ2 : Sto} {P : Out → Prop} {e c tg iter elt : Expr} {rest body orelse : List Stmt} {pos p' p2 : Pos} {x : Str} {r : Ent} {d : PyData} {ds out : List PyData}
def thenP (X : Cx) (W : WX) (n : Nat) (rest : List Stmt) (P : Out → Prop) : Out → Prop
  | .nx ρ μ => ST X W n rest ρ μ P
  | o => P o
theorem ST.nil (h : P (.nx ρ μ)) : ST X W n [] ρ μ P := fun w σ H D hn m s q => ⟨_, pss_nil, by
  have := q _ h [] σ H (by rw [add_nil]; exact m) (by rw [add_nil]; exact s) .refl fun b hb => absurd hb (by simp)
  exact this⟩
theorem ST.set {i : Nat} (h : EV X e ρ μ r μ1) (hN : X.N.Nodup) (hi : X.N[i]? = some x) (hx : Loc X.env.scope x) (hr : ST X W n rest (ρ.set i (some r)) μ1 P) (hs : swapsWith e (some (.Name x p')) pos.line X.env = pure false := by rfl)
    (hf : X.fn x = true ∨ X.env.scope.names.lookup x = some .local := by first | exact .inl rfl | exact .inr rfl | assumption) : ST X W n (.Assign [.Name x p'] e pos :: rest) ρ μ P := by
  intro w σ H D hn m s q
  refine ⟨_, pss_cons (ps_set hN hi hx (p_ex (e := e)) hs hf) p_sx, ?_⟩
  refine h w σ H m s _ fun v H1 m1 f1 h1 => ?_
  exact hr w _ H1 D hn m1 ((s.fr f1).set h1) fun o ho => (q o ho).step hn f1
/-- name = a new list of the def's own, which may change -/
theorem new_cell {K : PySem.W.Frag} {H H1 : Hp} {w : Wd} {p : Addr} {vs : List V} {σ : L2.St} {i : Nat} (m : Mem K H w μ) (s : Sl K H w σ ρ) (m1 : Mem K H1 (wk' w p) μ1) (f1 : Fr w.α H H1) (hp : Nw H p) (e1 : H1 p = some (.lst vs)) (hd : DqAll (dl H1 (wk' w p).all) vs ds) :
    Mem K H1 (w.add [p]) (μ1 ++ [ds]) ∧ Sl K H1 (w.add [p]) (σ.set i (some (.ref p))) (ρ.set i (some (.ptr μ1.length))) := by
  have ha : p ∉ w.α := fun z => m.freshN hp (List.mem_append_left _ z)
  have all_eq : ∀ b, b ∈ (w.add [p]).all ↔ b ∈ (wk' w p).all := fun b => by
    rw [all_wk']
    simp only [Wd.all, List.mem_append, List.mem_cons, List.not_mem_nil, or_false]
    constructor
    · rintro ((h | h) | h)
      · exact .inr (.inl h)
      · exact .inl h
      · exact .inr (.inr h)
    · rintro (h | h | h)
      · exact .inl (.inr h)
      · exact .inl (.inl h)
      · exact .inr h
  have g : Same (dl H1 (wk' w p).all) (dl H1 (w.add [p]).all) := dl_sub fun b hb => (all_eq b).mp hb
  have len1 : w.α.length = μ1.length := m1.len
  have mm : Mem K H1 (w.add [p]) (μ1 ++ [ds]) := by
    refine ⟨List.nodup_append.mpr ⟨m.nd, by simp, fun a h b h' => by simp at h'; subst h'; exact fun z => ha (z ▸ h)⟩, by simp [len1], fun k a xs h1 h2 => ?_, fun b hb z => ?_, fun b hb => m1.ext b (List.mem_cons_of_mem _ hb), m1.tab⟩
    · by_cases hk : k < w.α.length
      · have h1' : w.α[k]? = some a := by rwa [List.getElem?_append_left hk] at h1
        have h2' : μ1[k]? = some xs := by rwa [List.getElem?_append_left (by omega)] at h2
        obtain ⟨us, e, hd'⟩ := m1.cell k a xs h1' h2'
        exact ⟨us, e, dqAll_mono g _ _ hd'⟩
      · rw [List.getElem?_append_right (by omega)] at h1 h2
        rw [len1] at h1
        cases hj : k - μ1.length with
        | zero =>
          rw [hj] at h1 h2
          simp at h1 h2
          subst h1
          subst h2
          exact ⟨vs, e1, dqAll_mono g _ _ hd⟩
        | succ j =>
          rw [hj] at h1
          simp at h1
    · rcases List.mem_append.mp z with z | z
      · exact m.out b hb z
      · obtain ⟨o, eo, po⟩ := m.ext b hb
        have : b = p := by simpa using z
        exact hp o (this ▸ eo) po.1
  refine ⟨mm, ?_⟩
  have s1 : Sl K H1 (w.add [p]) σ ρ := by
    have g2 : Same (dl H w.all) (dl H1 (w.add [p]).all) := (keep_outN (K := K) hp f1 ⟨_, e1⟩).trans g
    refine ⟨s.len, fun i r e => ?_⟩
    obtain ⟨v, a, b⟩ := s.at_ i r e
    refine ⟨v, a, ?_⟩
    cases r with
    | dat d => exact dq_mono g2 d v b
    | ptr k =>
      obtain ⟨a0, h0, h1⟩ := b
      exact ⟨a0, by rw [List.getElem?_append_left (List.getElem?_eq_some_iff.mp h0).1]; exact h0, h1⟩
    | obj C fs =>
      obtain ⟨x, dx, ws, e, hx, hn, hd⟩ := b
      exact ⟨x, dx, ws, e, g2 _ _ hx, hn, dqAll_mono g2 _ _ hd⟩
    | scr ns =>
      obtain ⟨a, e, hs⟩ := b
      exact ⟨a, e, Same.seq g2 hs⟩
    | raw u => exact b
    | exc a d fs =>
      obtain ⟨e, ws, hx, hn, hd⟩ := b
      exact ⟨e, ws, g2 _ _ hx, hn, dqAll_mono g2 _ _ hd⟩
  refine s1.set ⟨p, ?_, rfl⟩
  rw [List.getElem?_append_right (by omega), len1]
  simp
/-- name = a new list of the def's own, which may change -/
theorem ST.cell {i : Nat} (h : EVF X e ρ μ ds μ1) (hN : X.N.Nodup) (hi : X.N[i]? = some x) (hx : Loc X.env.scope x) (hr : ST X W n rest (ρ.set i (some (.ptr μ1.length))) (μ1 ++ [ds]) P) (hs : swapsWith e (some (.Name x p')) pos.line X.env = pure false := by rfl)
    (hf : X.fn x = true ∨ X.env.scope.names.lookup x = some .local := by first | exact .inl rfl | exact .inr rfl | assumption) : ST X W n (.Assign [.Name x p'] e pos :: rest) ρ μ P := by
  intro w σ H D hn m s q
  refine ⟨_, pss_cons (ps_set hN hi hx (p_ex (e := e)) hs hf) p_sx, ?_⟩
  refine h w σ H m s _ fun p H1 vs m1 f1 hp e1 hd => ?_
  obtain ⟨mm, ss⟩ := new_cell (i := i) m s m1 f1 hp e1 hd
  exact hr (w.add [p]) _ H1 D (by simp; omega) mm ss fun o ho => Fin.grow (q o ho) hn f1 fun b hb => by
    have : b = p := by simpa using hb
    rw [this]; exact hp
/-- name = [..] -/
theorem ST.lc {i : Nat} {ifs : List Expr} {scope : Scope} {own : List (Str × Nat)} {lpos : Pos} (h : LCV X elt tg iter ifs scope own ρ μ out μ1) (hc : X.calm = true) (hN : X.N.Nodup) (hi : X.N[i]? = some x) (hx : X.env.scope.names.lookup x = some .local) (ok : BlkOk X.N X.env.scope scope own)
    (hr : ST X W n rest (ρ.set i (some (Ls out))) μ1 P) (hsw : swapsWith (.ListComp elt [⟨tg, iter, ifs, 0⟩] scope lpos) (some (.Name x p')) pos.line X.env = pure true) (hst : ∀ x, foldedSetIterable iter X.env x = pure x := by intro _; rfl) :
    ST X W n (.Assign [.Name x p'] (.ListComp elt [⟨tg, iter, ifs, 0⟩] scope lpos) pos :: rest) ρ μ P := by
  intro w σ H D hn m s q
  refine ⟨_, pss_cons (ps_setLc (i := i) hc hN hi hx hsw (p_ix (tg := tg) (e := iter)) ok pg_C pts_C pe_C hst) p_sx, ?_⟩
  show tLc _ _ _ _ _ σ H fun v H1 => SX X rest D (σ.set i (some v)) H1
  refine h w σ H m s _ fun p H1 vs m1 f1 hp e1 hd => ?_
  have hv : Val X.K H1 w (.ref p) (Ls out) := Dq.lst (dl_of (m.freshN hp) e1) (dqAll_mono (dl_sub fun b hb => all_wk'.mpr (.inr hb)) _ _ hd)
  exact hr w _ H1 D hn m1.unkeep ((s.fr f1).set hv) fun o ho => (q o ho).step hn f1
theorem ST.lcCell {i : Nat} {ifs : List Expr} {scope : Scope} {own : List (Str × Nat)} {lpos : Pos} (h : LCV X elt tg iter ifs scope own ρ μ out μ1) (hc : X.calm = true) (hN : X.N.Nodup) (hi : X.N[i]? = some x) (hx : X.env.scope.names.lookup x = some .local) (ok : BlkOk X.N X.env.scope scope own)
    (hr : ST X W n rest (ρ.set i (some (.ptr μ1.length))) (μ1 ++ [out]) P) (hsw : swapsWith (.ListComp elt [⟨tg, iter, ifs, 0⟩] scope lpos) (some (.Name x p')) pos.line X.env = pure true) (hst : ∀ x, foldedSetIterable iter X.env x = pure x := by intro _; rfl) :
    ST X W n (.Assign [.Name x p'] (.ListComp elt [⟨tg, iter, ifs, 0⟩] scope lpos) pos :: rest) ρ μ P := by
  intro w σ H D hn m s q
  refine ⟨_, pss_cons (ps_setLc (i := i) hc hN hi hx hsw (p_ix (tg := tg) (e := iter)) ok pg_C pts_C pe_C hst) p_sx, ?_⟩
  show tLc _ _ _ _ _ σ H fun v H1 => SX X rest D (σ.set i (some v)) H1
  refine h w σ H m s _ fun p H1 vs m1 f1 hp e1 hd => ?_
  obtain ⟨mm, ss⟩ := new_cell (i := i) m s m1 f1 hp e1 hd
  exact hr (w.add [p]) _ H1 D (by simp; omega) mm ss fun o ho => Fin.grow (q o ho) hn f1 fun b hb => by
    have : b = p := by simpa using hb
    rw [this]; exact hp
theorem ST.asg {is : List Nat} (h : EV X e ρ μ (.dat d) μ1) (hg : GV X tg d ρ ρ1 is) (hr : ST X W n rest ρ1 μ1 P) (hs : swapsWithSole [tg] e pos.line X.env = pure false := by rfl) (hw : swappedStores [tg] e X.env = pure none := by rfl)
    (h1 : (assignEach [tg] X.env).map (·.2) = [assign tg X.env] := by rfl) : ST X W n (.Assign [tg] e pos :: rest) ρ μ P := by
  intro w σ H D hn m s q
  refine ⟨_, pss_cons (ps_asg (p_ex (e := e)) (p_gx (e := tg)) hs hw h1) p_sx, ?_⟩
  refine h w σ H m s _ fun v H1 m1 f1 hv => ?_
  refine hg w σ H1 μ1 v m1 (s.fr f1) hv _ fun σ1 s1 _ => ?_
  exact hr w _ H1 D hn m1 s1 fun o ho => (q o ho).step hn f1
/-- a, b = x, y -/
theorem ST.par {i j : Nat} {x y : Str} {a b : Expr} {px py pt : Pos} {kt k2 pt2} {r1 r2 : Ent} (ha : AV X [a, b] ρ μ [r1, r2] μ1) (hN : X.N.Nodup) (hi : X.N[i]? = some x) (hj : X.N[j]? = some y) (hij : i ≠ j)
    (hx : X.env.scope.names.lookup x = some .local) (hy : X.env.scope.names.lookup y = some .local) (hr : ST X W n rest ((ρ.set i (some r1)).set j (some r2)) μ1 P)
    (hw : swappedStores [.Tuple [.Name x px, .Name y py] kt pt] (.Tuple [a, b] k2 pt2) X.env = pure (some [x, y])) (hc : X.calm = true := by rfl)
    (hs : swapsWithSole [.Tuple [.Name x px, .Name y py] kt pt] (.Tuple [a, b] k2 pt2) pos.line X.env = pure false := by rfl) : ST X W n (.Assign [.Tuple [.Name x px, .Name y py] kt pt] (.Tuple [a, b] k2 pt2) pos :: rest) ρ μ P := by
  intro w σ H D hn m s q
  refine ⟨_, pss_cons (ps_par hc hN hi hj hij hx hy (p_ax (e := [a, b])) hw hs) p_sx, ?_⟩
  refine ha w σ H m s _ fun vs H1 m1 f1 hv => ?_
  obtain ⟨v1, us, rfl, h1, h2⟩ := hv.inv
  obtain ⟨v2, us, rfl, h3, h4⟩ := h2.inv
  obtain rfl := h4.inv0
  exact ⟨v1, v2, rfl, hr w _ H1 D hn m1 (((s.fr f1).set h1).set h3) fun o ho => (q o ho).step hn f1⟩
theorem ST.expr (h : EV X e ρ μ r μ1) (hr : ST X W n rest ρ μ1 P) (hs : swapsWith e none pos.line X.env = pure false := by rfl) : ST X W n (.Expr e pos :: rest) ρ μ P := by
  intro w σ H D hn m s q
  refine ⟨_, pss_cons (ps_expr (p_ex (e := e)) hs) p_sx, ?_⟩
  refine h w σ H m s _ fun v H1 m1 f1 hv => ?_
  exact hr w σ H1 D hn m1 (s.fr f1) fun o ho => (q o ho).step hn f1
theorem ST.ret (h : EV X e ρ μ r μ1) (hP : P (.ret (frz n μ1 r) (μ1.take n))) : ST X W n (.Return (some e) pos :: rest) ρ μ P := by
  intro w σ H D hn m s q
  refine ⟨_, pss_cons (ps_ret (p_ex (e := e))) pss_never, ?_⟩
  refine h w σ H m s _ fun v H1 m1 f1 hv => ?_
  exact q _ hP v H1 (m1.cut n) f1 (val_frz m1 hv)
theorem ST.iff {k : Bool} (h : TV X c ρ μ k μ1) (h1 : k = true → ST X W n body ρ μ1 (thenP X W n rest P)) (h2 : k = false → ST X W n orelse ρ μ1 (thenP X W n rest P)) : ST X W n (.If c body orelse pos :: rest) ρ μ P := by
  intro w σ H D hn m s q
  refine ⟨_, pss_cons (ps_if (p_tx (e := c)) p_sx p_sx) p_sx, ?_⟩
  refine h w σ H m s _ fun H1 m1 f1 => ?_
  have fin : ∀ o, thenP X W n rest P o → Fin X W n w H1 { D with nx := SX X rest D } o := by
    intro o ho
    cases o with
    | nx ρ' μ' =>
      intro β σ' H2 m2 s2 f2 hb
      refine ho (w.add β) σ' H2 D (by simp; omega) m2 s2 fun o ho => ?_
      exact Fin.grow (β := β) ((q o ho).step hn f1) hn f2 hb
    | ret r μ' => exact (Fin.step (o := .ret r μ') (q _ ho) hn f1 : Fin X W n w H1 D (.ret r μ'))
    | brk ρ' μ' => exact (Fin.step (o := .brk ρ' μ') (q _ ho) hn f1 : Fin X W n w H1 D (.brk ρ' μ'))
    | ct ρ' μ' => exact (Fin.step (o := .ct ρ' μ') (q _ ho) hn f1 : Fin X W n w H1 D (.ct ρ' μ'))
    | rse ρ' μ' C fs => exact (Fin.step (o := .rse ρ' μ' C fs) (q _ ho) hn f1 : Fin X W n w H1 D (.rse ρ' μ' C fs))
  cases k with
  | true => exact iteT (h1 rfl w σ H1 _ hn m1 (s.fr f1) fin)
  | false => exact iteF (h2 rfl w σ H1 _ hn m1 (s.fr f1) fin)
/-- an if of which both ways go on alike -/
theorem ST.mono {P' : Out → Prop} {sts : List Stmt} (h : ST X W n sts ρ μ P) (i : ∀ o, P o → P' o) : ST X W n sts ρ μ P' := fun w σ H D hn m s q => h w σ H D hn m s fun o ho => q o (i o ho)
/-- for: an invariant by the turn -/
theorem ST.for_ {is : List Nat} (hi : IV X tg iter ρ μ ds μ1) (Iv : Nat → REnv → Sto → Prop) (h0 : Iv 0 ρ μ1)
    (hs : ∀ (i : Nat) (d : PyData) (ρ : REnv) (μ : Sto), ds[i]? = some d → Iv i ρ μ → ∃ ρ', GV X tg d ρ ρ' is ∧ ST X W n body ρ' μ fun
      | .nx ρ μ => Iv (i + 1) ρ μ
      | .ct ρ μ => Iv (i + 1) ρ μ
      | .brk ρ μ => thenP X W n rest P (.nx ρ μ)
      | .ret r μ => P (.ret r μ)
      | .rse ρ μ C fs => P (.rse ρ μ C fs))
    (hd : ∀ ρ μ, Iv ds.length ρ μ → ST X W n rest ρ μ P) (hc : X.calm = true := by rfl) (hp : PassesOwn (model X.prog X.w) X.A X.env X.xe := by exact PassesOwn.never) (hst : ∀ x, foldedSetIterable iter X.env x = pure x := by intro _; rfl) : ST X W n (.For tg iter body [] pos :: rest) ρ μ P := by
  intro w σ H D hn m s q
  refine ⟨_, pss_cons (ps_for hp hc (p_ix (tg := tg) (e := iter)) (p_gx (e := tg)) (p_sx (e := body)) hst) (p_sx (e := rest)), ?_⟩
  refine hi w σ H m s _ fun J H1 m1 f1 wk => ?_
  refine ⟨fun i k σ' H' => k = ds.length - i ∧ i ≤ ds.length ∧ ∃ β ρ' μ', Iv i ρ' μ' ∧ Mem X.K H' (w.add β) μ' ∧ Sl X.K H' (w.add β) σ' ρ' ∧ Fr w.α H1 H' ∧ ∀ b ∈ β, Nw H1 b,
    ⟨ds.length, by simp, Nat.zero_le _, [], ρ, μ1, h0, by rw [add_nil]; exact m1, by rw [add_nil]; exact s.fr f1, .refl, fun b hb => absurd hb (by simp)⟩, ?_⟩
  rintro i k σ' H' ⟨rfl, hi', β, ρ', μ', iv, m2, s2, f2, hb⟩
  have g : Same (dl H1 w.all) H' := f2.all.trans dl_same
  have hn2 : n ≤ (w.add β).α.length := by simp; omega
  have grow : ∀ o, P o → Fin X W n (w.add β) H' D o := fun o ho => Fin.grow ((q o ho).step hn f1) hn f2 hb
  by_cases hlt : i < ds.length
  · obtain ⟨d, hdi⟩ : ∃ d, ds[i]? = some d := ⟨ds[i], by simp [hlt]⟩
    obtain ⟨go, yl⟩ := wk.go H' g i d hdi
    refine .inr ⟨go, fun σ3 H3 => ∃ β ρ' μ', Iv (i + 1) ρ' μ' ∧ Mem X.K H3 (w.add β) μ' ∧ Sl X.K H3 (w.add β) σ3 ρ' ∧ Fr w.α H1 H3 ∧ ∀ b ∈ β, Nw H1 b, fun σ3 H3 h => ⟨ds.length - (i + 1), by omega, rfl, hlt, h⟩, fun x H3 y3 => ?_⟩
    obtain ⟨s23, dx⟩ := yl x H3 y3
    have gT : Same (dl H1 w.all) (dl H' (w.add β).all) := fun b o e => by
      have nt := dl_nt e
      obtain ⟨n1, e1⟩ := dl_some e
      refine dl_of (fun z => ?_) (f2 b o e1 (fun z => n1 (List.mem_append_left _ z)) nt) nt
      rcases List.mem_append.mp z with z | z
      · rcases List.mem_append.mp z with z | z
        · exact n1 (List.mem_append_left _ z)
        · exact hb b z o e1 nt
      · exact n1 (List.mem_append_right _ z)
    have dx3 : Dq (dl H3 (w.add β).all) x d := dx _ gT fun b hb' => by
      rcases List.mem_append.mp hb' with z | z
      · obtain ⟨vs, e⟩ := m2.there z
        exact ⟨_, e⟩
      · exact m2.ex1 z
    have f23 : Fr (w.add β).α H' H3 := Fr.of_same s23
    obtain ⟨ρ3, hg, hbody⟩ := hs i d ρ' μ' hdi iv
    refine hg (w.add β) σ' H3 μ' x (m2.same s23) (s2.fr f23) dx3 _ fun σ4 s4 _ => ?_
    refine hbody (w.add β) σ4 H3 _ hn2 (m2.same s23) s4 fun o ho => ?_
    have go_on : ∀ ρ5 μ5, Iv (i + 1) ρ5 μ5 → Nx X (w.add β) H3 (fun _ σ3 H3 => ∃ β ρ' μ', Iv (i + 1) ρ' μ' ∧ Mem X.K H3 (w.add β) μ' ∧ Sl X.K H3 (w.add β) σ3 ρ' ∧ Fr w.α H1 H3 ∧ ∀ b ∈ β, Nw H1 b) ρ5 μ5 := by
      intro ρ5 μ5 iv5 β' σ5 H5 m5 s5 f5 hb5
      rw [wd_add_add] at m5 s5
      have f15 : Fr w.α H1 H5 := fun b o e nb nt => by
        refine f5 b o (s23 _ _ (f2 b o e nb nt)) (fun z => ?_) nt
        rcases List.mem_append.mp z with z | z
        · exact nb z
        · exact hb b z o e nt
      refine ⟨β ++ β', ρ5, μ5, iv5, m5, s5, f15, fun b hbb => ?_⟩
      rcases List.mem_append.mp hbb with z | z
      · exact hb b z
      · exact Nw.back (f2.trans (Fr.of_same s23)) (hb5 b z) fun y => (List.nodup_append.mp m5.nd).2.2 b y b (List.mem_append_right _ z) rfl
    cases o with
    | nx ρ5 μ5 => exact go_on ρ5 μ5 ho
    | ct ρ5 μ5 => exact go_on ρ5 μ5 ho
    | ret r μ5 => exact (Fin.step (grow _ ho) hn2 f23 : Fin X W n (w.add β) H3 D (.ret r μ5))
    | rse ρ5 μ5 C fs => exact (Fin.step (grow _ ho) hn2 f23 : Fin X W n (w.add β) H3 D (.rse ρ5 μ5 C fs))
    | brk ρ5 μ5 =>
      intro β' σ5 H5 m5 s5 f5 hb5
      exact ho ((w.add β).add β') σ5 H5 D (by simp; omega) m5 s5 fun o ho => Fin.grow (Fin.step (grow o ho) hn2 f23) hn2 f5 hb5
  · have ei : i = ds.length := by omega
    subst ei
    refine .inl ⟨wk.stop H' g, ?_⟩
    exact hd ρ' μ' iv (w.add β) σ' H' D hn2 m2 s2 grow
/-! ### defs -/
def PostR (r : Ent) (μ : Sto) : Out → Prop
  | .ret r' μ' => r' = r ∧ μ' = μ
  | _ => False
def Post (r : Ent) (μ : Sto) : Out → Prop
  | .ret r' μ' => r' = r ∧ μ' = μ
  | .nx _ μ' => r = Nn ∧ ∃ ν, μ' = μ ++ ν
  | _ => False
end
theorem sl_start {K : PySem.W.Frag} {H : Hp} {w : Wd} {N : List Str} {vs : List V} {rs : List Ent} (h : Vas K H w vs rs) (hl : rs.length ≤ N.length) : Sl K H w (L2.start N vs) (rs.map some ++ List.replicate (N.length - rs.length) none) := by
  have e := h.1
  refine ⟨by simp [L2.start, e]; try omega, fun i r hi => ?_⟩
  by_cases hk : i < rs.length
  · rw [List.getElem?_append_left (by simpa using hk), List.getElem?_map] at hi
    have hr : rs[i]? = some r := by
      cases q : rs[i]? with
      | none => rw [q] at hi; cases hi
      | some z => rw [q] at hi; simpa using hi
    have hv : i < vs.length := by omega
    refine ⟨vs[i], ?_, h.2 i vs[i] r (by simp [hv]) hr⟩
    unfold L2.start
    rw [List.getElem?_append_left (by simpa using hv), List.getElem?_map]
    simp [hv]
  · rw [List.getElem?_append_right (by simpa using Nat.le_of_not_lt hk)] at hi
    rw [List.getElem?_replicate] at hi
    split at hi <;> simp at hi
section
variable {w : World} {P : Program} {K : PySem.W.Frag} {base : Heap} {mg : Str → Option Value}
theorem Cal.mk' {x : Str} {st : Stmt} {f : Addr} {fd : FuncData} {N ps : List Str} {k : Nat} {C : List Ent → Sto → Ent → Sto → Prop} (F : Fun K x x st f fd) (hm : mg x = some (.ref f)) (Sc : FnScope N ps (defScope st)) (b : Binds K fd ps []) (hN : ps.length ≤ N.length) (hlen : ∀ rs μ r μ', C rs μ r μ' → μ'.length = μ.length)
    (body : ∀ (cdv : Value) (A : Around) (outer : List Env) (s : Shared) (H : Hp) (E : XK), Room k (A.deeper (envOfC x (defScope st) s.heap.objs.size f cdv)) → ∀ rs μ r μ', rs.length = ps.length → C rs μ r μ' →
      ST (cxOf CX0 P w K mg base N x (defScope st) f cdv A outer s H E).nox W0 μ.length (defBody st) (rs.map some ++ List.replicate (N.length - rs.length) none) μ (Post r μ')) : Cal P w K mg base x (k + 1) ps C := by
  refine ⟨f, fd, ?_, hm, F.kp, b⟩
  refine F.ok Sc (fun vs H Q E h => ?_) (fun cdv A outer s H vs Q E hr h => ?_)
  · obtain ⟨w0, μ, rs, r, μ', _, hv, hl, _⟩ := h
    rw [hv.1, hl]
  · obtain ⟨w0, μ, rs, r, μ', m, hv, hl, hC, q⟩ := h
    have hb := body cdv A outer s H E hr rs μ r μ' hl hC
    refine hb w0 _ H _ (Nat.le_of_eq m.len.symm) m (sl_start hv (by omega)) fun o ho => ?_
    have hw : w0.cut μ.length = w0 := by
      show (⟨w0.α.take μ.length, w0.ξ⟩ : Wd) = w0
      rw [← m.len, List.take_length]
    cases o with
    | ret r2 μ2 =>
      obtain ⟨rfl, rfl⟩ := ho
      intro v H' m' f hv'
      rw [hw] at m' hv'
      exact q v H' m' f hv'
    | nx ρ2 μ2 =>
      obtain ⟨rfl, ν, rfl⟩ := ho
      intro β σ' H' m' s' f hb
      have mc := m'.cut μ'.length
      have e : (w0.add β).cut μ'.length = w0 := by
        show (⟨(w0.α ++ β).take μ'.length, w0.ξ⟩ : Wd) = w0
        rw [hlen _ _ _ _ hC, ← m.len, List.take_left]
      rw [e, List.take_left] at mc
      exact q .non H' mc f Dq.non
    | brk ρ2 μ2 => exact False.elim ho
    | ct ρ2 μ2 => exact False.elim ho
    | rse ρ2 μ2 C fs => exact False.elim ho
end
end J
/-! J6: short names for the commonest. -/
namespace J
open PySem PySem.Spec
open PyProof.Rows L2

/-- the built-ins that no module's name hides -/
structure Bt (mg : Str → Option Value) : Prop where
  len : mg "len" = none
  str : mg "str" = none
  int : mg "int" = none
  bool : mg "bool" = none
  range : mg "range" = none
  list : mg "list" = none
  tuple : mg "tuple" = none
  all : mg "all" = none
  any : mg "any" = none
  isinstance : mg "isinstance" = none
  enumerate : mg "enumerate" = none
  repr : mg "repr" = none
  abs : mg "abs" = none
  max : mg "max" = none
  min : mg "min" = none
  divmod : mg "divmod" = none

section
variable {X : Cx} {ρ : REnv} {μ μ1 μ2 μ3 : Sto} {x y z r : Ent} {a b c e o tg iter elt : Expr} {es : List Expr} {pos p2 p apos : Pos} {rs : List Ent} {ds out ys : List PyData} {d d2 : PyData} {i j : Int} {s t n : Str} {k l : Bool}
/-- the name in slot i -/
theorem nm (i : Nat) {n : Str} {r : Ent} (hN : X.N[i]? = some n := by rfl) (hv : Vis X.env.scope n := by first | exact Or.inl rfl | exact Or.inr (Or.inl rfl) | exact Or.inr (Or.inr rfl)) (h : ρ[i]? = some (some r) := by rfl) (hd : (n == ("__debug__" : Str)) = false := by decide) (hcd : (n == ("__classdict__" : Str)) = false := by decide) : EV X (.Name n pos) ρ μ r μ := EV.name hN hv h hd hcd
/-- a constant of the module -/
theorem gl {v : V} {u : Value} (hm : X.mg n = some u) (r : RelV v u) (hv : ∀ H, Dq H v d) (hg : Gl X n := by rfl) (hd : (n == ("__debug__" : Str)) = false := by decide) : EV X (.Name n pos) ρ μ (.dat d) μ := fun w σ H m s Q q => ⟨_, pe_glob hg hm r hd, q _ H m .refl (hv _)⟩
theorem oAdd (ha : EV X a ρ μ (Ii i) μ1) (hb : EV X b ρ μ1 (Ii j) μ2) : EV X (.BinOp a .Add b pos) ρ μ (Ii (i + j)) μ2 := ha.op op_add hb (r2_I0 fun _ => .int _)
theorem oSub (ha : EV X a ρ μ (Ii i) μ1) (hb : EV X b ρ μ1 (Ii j) μ2) : EV X (.BinOp a .Sub b pos) ρ μ (Ii (i - j)) μ2 := ha.op op_sub hb (r2_I0 fun _ => .int _)
theorem oMul (ha : EV X a ρ μ (Ii i) μ1) (hb : EV X b ρ μ1 (Ii j) μ2) (h : CMul i j) : EV X (.BinOp a .Mult b pos) ρ μ (Ii (i * j)) μ2 := ha.op op_mul hb (r2_I h fun _ => .int _)
theorem oMod (ha : EV X a ρ μ (Ii i) μ1) (hb : EV X b ρ μ1 (Ii j) μ2) (h : 0 < j) : EV X (.BinOp a .Mod b pos) ρ μ (Ii (i % j)) μ2 := ha.op op_mod hb (r2_I h fun _ => .int _)
theorem oDiv (ha : EV X a ρ μ (Ii i) μ1) (hb : EV X b ρ μ1 (Ii j) μ2) (h : CDiv i j) : EV X (.BinOp a .FloorDiv b pos) ρ μ (Ii (i / j)) μ2 := ha.op op_fdiv hb (r2_I h fun _ => .int _)
theorem oPow (ha : EV X a ρ μ (Ii i) μ1) (hb : EV X b ρ μ1 (Ii j) μ2) (h : CPow i j) : EV X (.BinOp a .Pow b pos) ρ μ (Ii (i ^ j.toNat)) μ2 := ha.op op_pow hb (r2_I h fun _ => .int _)
theorem oAddS (ha : EV X a ρ μ (Ss s) μ1) (hb : EV X b ρ μ1 (Ss t) μ2) (h : s.length + t.length ≤ sizeLine) : EV X (.BinOp a .Add b pos) ρ μ (Ss (s ++ t)) μ2 := ha.op op_add_str hb (r2_addS h)
theorem oCat (ha : EV X a ρ μ (Ls ds) μ1) (hb : EV X b ρ μ1 (Ls ys) μ2) (h : ds.length + ys.length ≤ sizeLine) : EV X (.BinOp a .Add b pos) ρ μ (Ls (ds ++ ys)) μ2 := ha.op op_cat hb (r2_cat h)
theorem oCatT (ha : EV X a ρ μ (Tp ds) μ1) (hb : EV X b ρ μ1 (Tp ys) μ2) (h : ds.length + ys.length ≤ sizeLine) : EV X (.BinOp a .Add b pos) ρ μ (Tp (ds ++ ys)) μ2 := ha.op op_catA hb (r2_catT h)
theorem cLt (ha : EV X a ρ μ (Ii i) μ1) (hb : EV X b ρ μ1 (Ii j) μ2) : EV X (.Compare a [.Lt] [b] pos) ρ μ (Bb (decide (i < j))) μ2 := ha.cmp op_lt (nomark _) hb (r2_I0 fun _ => .bl _)
theorem cLe (ha : EV X a ρ μ (Ii i) μ1) (hb : EV X b ρ μ1 (Ii j) μ2) : EV X (.Compare a [.LtE] [b] pos) ρ μ (Bb (decide (i ≤ j))) μ2 := ha.cmp op_le (nomark _) hb (r2_I0 fun _ => .bl _)
theorem cGt (ha : EV X a ρ μ (Ii i) μ1) (hb : EV X b ρ μ1 (Ii j) μ2) : EV X (.Compare a [.Gt] [b] pos) ρ μ (Bb (decide (j < i))) μ2 := ha.cmp op_gt (nomark _) hb (r2_I0 fun _ => .bl _)
theorem cGe (ha : EV X a ρ μ (Ii i) μ1) (hb : EV X b ρ μ1 (Ii j) μ2) : EV X (.Compare a [.GtE] [b] pos) ρ μ (Bb (decide (j ≤ i))) μ2 := ha.cmp op_ge (nomark _) hb (r2_I0 fun _ => .bl _)
theorem tLt (ha : EV X a ρ μ (Ii i) μ1) (hb : EV X b ρ μ1 (Ii j) μ2) : TV X (.Compare a [.Lt] [b] pos) ρ μ (decide (i < j)) μ2 := TV.cmp op_lt (nomark _) ha hb (r2_I0 fun _ => .bl _)
theorem tLe (ha : EV X a ρ μ (Ii i) μ1) (hb : EV X b ρ μ1 (Ii j) μ2) : TV X (.Compare a [.LtE] [b] pos) ρ μ (decide (i ≤ j)) μ2 := TV.cmp op_le (nomark _) ha hb (r2_I0 fun _ => .bl _)
theorem tGt (ha : EV X a ρ μ (Ii i) μ1) (hb : EV X b ρ μ1 (Ii j) μ2) : TV X (.Compare a [.Gt] [b] pos) ρ μ (decide (j < i)) μ2 := TV.cmp op_gt (nomark _) ha hb (r2_I0 fun _ => .bl _)
theorem tGe (ha : EV X a ρ μ (Ii i) μ1) (hb : EV X b ρ μ1 (Ii j) μ2) : TV X (.Compare a [.GtE] [b] pos) ρ μ (decide (j ≤ i)) μ2 := TV.cmp op_ge (nomark _) ha hb (r2_I0 fun _ => .bl _)
theorem cEq (ha : EV X a ρ μ (.dat d) μ1) (hb : EV X b ρ μ1 (.dat d2) μ2) (h : likeD d d2 = true := by rfl) : EV X (.Compare a [.Eq] [b] pos) ρ μ (Bb (eqS d d2)) μ2 := ha.cmp op_eq (nomark _) hb (r2_eq h)
theorem cNe (ha : EV X a ρ μ (.dat d) μ1) (hb : EV X b ρ μ1 (.dat d2) μ2) (h : likeD d d2 = true := by rfl) : EV X (.Compare a [.NotEq] [b] pos) ρ μ (Bb (!eqS d d2)) μ2 := ha.cmp op_ne (nomark _) hb (r2_ne h)
theorem tEq (ha : EV X a ρ μ (.dat d) μ1) (hb : EV X b ρ μ1 (.dat d2) μ2) (h : likeD d d2 = true := by rfl) : TV X (.Compare a [.Eq] [b] pos) ρ μ (eqS d d2) μ2 := TV.cmp op_eq (nomark _) ha hb (r2_eq h)
theorem tNe (ha : EV X a ρ μ (.dat d) μ1) (hb : EV X b ρ μ1 (.dat d2) μ2) (h : likeD d d2 = true := by rfl) : TV X (.Compare a [.NotEq] [b] pos) ρ μ (!eqS d d2) μ2 := TV.cmp op_ne (nomark _) ha hb (r2_ne h)
theorem tEqD (hu : X.A.units + 64 < cLine) (ha : EV X a ρ μ (.dat d) μ1) (hb : EV X b ρ μ1 (.dat d2) μ2) (h1 : SeqAt.shaped d = true) (h2 : SeqAt.shaped d2 = true) : TV X (.Compare a [.Eq] [b] pos) ρ μ (PyData.eqv d d2) μ2 := TV.cmp (op_eqD hu) (nomark _) ha hb (r2_eqD h1 h2)
theorem tNeD (hu : X.A.units + 64 < cLine) (ha : EV X a ρ μ (.dat d) μ1) (hb : EV X b ρ μ1 (.dat d2) μ2) (h1 : SeqAt.shaped d = true) (h2 : SeqAt.shaped d2 = true) : TV X (.Compare a [.NotEq] [b] pos) ρ μ (!PyData.eqv d d2) μ2 := TV.cmp (op_neD hu) (nomark _) ha hb (r2_neD h1 h2)
theorem cEqD (hu : X.A.units + 64 < cLine) (ha : EV X a ρ μ (.dat d) μ1) (hb : EV X b ρ μ1 (.dat d2) μ2) (h1 : SeqAt.shaped d = true) (h2 : SeqAt.shaped d2 = true) : EV X (.Compare a [.Eq] [b] pos) ρ μ (Bb (PyData.eqv d d2)) μ2 := ha.cmp (op_eqD hu) (nomark _) hb (r2_eqD h1 h2)
theorem cIsN {kk} (ha : EV X a ρ μ (.dat d) μ1) : EV X (.Compare a [.Is] [.Constant .none kk p2] pos) ρ μ (Bb (isNone d)) μ1 := ha.cmp op_isN (nomark _) EV.non r2_isN
theorem cNotN {kk} (ha : EV X a ρ μ (.dat d) μ1) : EV X (.Compare a [.IsNot] [.Constant .none kk p2] pos) ρ μ (Bb (!isNone d)) μ1 := ha.cmp op_notN (nomark _) EV.non r2_notN
theorem tIsN {kk} (ha : EV X a ρ μ (.dat d) μ1) : TV X (.Compare a [.Is] [.Constant .none kk p2] pos) ρ μ (isNone d) μ1 := TV.cmp op_isN (nomark _) ha EV.non r2_isN
theorem tNotN {kk} (ha : EV X a ρ μ (.dat d) μ1) : TV X (.Compare a [.IsNot] [.Constant .none kk p2] pos) ρ μ (!isNone d) μ1 := TV.cmp op_notN (nomark _) ha EV.non r2_notN
theorem tInL (ha : EV X a ρ μ (.dat d) μ1) (hb : EV X b ρ μ1 (Ls ds) μ2) (h1 : flatD d = true) (h2 : ds.all flatD = true) (hm : behindInMarks .In b = false := by rfl) : TV X (.Compare a [.In] [b] pos) ρ μ (inD d ds) μ2 := TV.cmp op_in_seq hm ha hb (r2_inL (neg := false) h1 h2)
theorem tInT (ha : EV X a ρ μ (.dat d) μ1) (hb : EV X b ρ μ1 (Tp ds) μ2) (h1 : flatD d = true) (h2 : ds.all flatD = true) (hm : behindInMarks .In b = false := by rfl) : TV X (.Compare a [.In] [b] pos) ρ μ (inD d ds) μ2 := TV.cmp op_in_seq hm ha hb (r2_inT (neg := false) h1 h2)
theorem tInC {n0 : Nat} (ha : EV X a ρ μ (.dat d) μ1) (hb : EV X b ρ μ1 (.ptr n0) μ2) (hn : μ2[n0]? = some ds) (h1 : flatD d = true) (h2 : ds.all flatD = true) (hm : behindInMarks .In b = false := by rfl) : TV X (.Compare a [.In] [b] pos) ρ μ (inD d ds) μ2 := TV.cmp op_in_seq hm ha hb (r2_inC (neg := false) hn h1 h2)
theorem tNiC {n0 : Nat} (ha : EV X a ρ μ (.dat d) μ1) (hb : EV X b ρ μ1 (.ptr n0) μ2) (hn : μ2[n0]? = some ds) (h1 : flatD d = true) (h2 : ds.all flatD = true) (hm : behindInMarks .NotIn b = false := by rfl) : TV X (.Compare a [.NotIn] [b] pos) ρ μ (!inD d ds) μ2 := TV.cmp op_notIn_seq hm ha hb (r2_inC (neg := true) hn h1 h2)
theorem tNiT (ha : EV X a ρ μ (.dat d) μ1) (hb : EV X b ρ μ1 (Tp ds) μ2) (h1 : flatD d = true) (h2 : ds.all flatD = true) (hm : behindInMarks .NotIn b = false := by rfl) : TV X (.Compare a [.NotIn] [b] pos) ρ μ (!inD d ds) μ2 := TV.cmp op_notIn_seq hm ha hb (r2_inT (neg := true) h1 h2)
theorem cInL (ha : EV X a ρ μ (.dat d) μ1) (hb : EV X b ρ μ1 (Ls ds) μ2) (h1 : flatD d = true) (h2 : ds.all flatD = true) (hm : behindInMarks .In b = false := by rfl) : EV X (.Compare a [.In] [b] pos) ρ μ (Bb (inD d ds)) μ2 := ha.cmp op_in_seq hm hb (r2_inL (neg := false) h1 h2)
theorem cInSign {c0 : Nat} (ha : EV X a ρ μ (Ss ⟨#[c0]⟩) μ1) (hb : EV X b ρ μ1 (Ss t) μ2) (hm : behindInMarks .In b = false := by rfl) : EV X (.Compare a [.In] [b] pos) ρ μ (Bb (decide (c0 ∈ t.cps.toList))) μ2 := ha.cmp op_in_sign hm hb r2_inSign
/-- None (or any) in a list of anything -/
theorem r2_inDeep {K : PySem.W.Frag} (h1 : SeqAt.shaped d = true) (h2 : SeqAt.shaped (.list ds) = true) : R2V K (rInD K) (.dat d) (Ls ds) (Bb (ds.any fun z => PyData.eqv z d)) μ := r2v_pure fun w H v u m a b =>
  ⟨_, Dq.bl _, fun Q q => ⟨d, ds, Dq.dp dl_same _ _ a (SeqAt.canLay_of_shaped h1), Dq.dp dl_same _ _ b (SeqAt.canLay_of_shaped h2), h1, h2, q⟩⟩
theorem tInDeep (hu : X.A.units + 65 < cLine) (ha : EV X a ρ μ (.dat d) μ1) (hb : EV X b ρ μ1 (Ls ds) μ2) (h1 : SeqAt.shaped d = true) (h2 : SeqAt.shaped (.list ds) = true) (hm : behindInMarks .In b = false := by rfl) : TV X (.Compare a [.In] [b] pos) ρ μ (ds.any fun z => PyData.eqv z d) μ2 := TV.cmp (op_inD hu) hm ha hb (r2_inDeep h1 h2)
/-- a < b < c of ints -/
theorem chainLe {op op' : CmpOp} {g g' : Int → Int → Bool} {i2 : Int} (ho : OpR X (compareOp op) (rI0 fun i j => .bl (g i j))) (ho' : OpR X (compareOp op') (rI0 fun i j => .bl (g' i j))) (ha : EV X a ρ μ (Ii i) μ1) (hb : EV X b ρ μ1 (Ii j) μ2) (hc : EV X c ρ μ2 (Ii i2) μ2)
    (hm : lastMarks [op, op'] [b, c] = false := by with_unfolding_all rfl) : EV X (.Compare a [op, op'] [b, c] pos) ρ μ (Bb (g i j && g' j i2)) μ2 := by
  intro w σ H m s Q q
  refine ⟨_, pe_chain ho ho' (p_ex (e := a)) (p_ex (e := b)) (p_ex (e := c)) hm, ?_⟩
  refine ha w σ H m s _ fun v H1 m1 f1 h1 => ?_
  cases h1
  refine hb w σ H1 m1 (s.fr f1) _ fun v H2 m2 f2 h2 => ?_
  cases h2
  refine ⟨i, j, rfl, rfl, _, rfl, ?_⟩
  cases hk : g i j with
  | true =>
    refine iteT ?_
    refine hc w σ H2 m2 ((s.fr f1).fr f2) _ fun v H3 m3 f3 h3 => ?_
    cases h3
    refine ⟨j, i2, rfl, rfl, ?_⟩
    have := q (.bl (g' j i2)) H3 m3 ((f1.trans f2).trans f3)
    rw [hk, Bool.true_and] at this
    exact this (Dq.bl _)
  | false =>
    refine iteF ?_
    have := q (.bl false) H2 m2 (f1.trans f2)
    rw [hk, Bool.false_and] at this
    exact this (Dq.bl _)
theorem tChainLe {op op' : CmpOp} {g g' : Int → Int → Bool} {i2 : Int} (ho : OpR X (compareOp op) (rI0 fun i j => .bl (g i j))) (ho' : OpR X (compareOp op') (rI0 fun i j => .bl (g' i j))) (ha : EV X a ρ μ (Ii i) μ1) (hb : EV X b ρ μ1 (Ii j) μ2) (hc : EV X c ρ μ2 (Ii i2) μ2)
    (hm : lastMarks [op, op'] [b, c] = false := by with_unfolding_all rfl) : TV X (.Compare a [op, op'] [b, c] pos) ρ μ (g i j && g' j i2) μ2 := by
  intro w σ H m s Q q
  refine ⟨_, pt_chain ho ho' (p_ex (e := a)) (p_ex (e := b)) (p_ex (e := c)) hm, ?_⟩
  refine ha w σ H m s _ fun v H1 m1 f1 h1 => ?_
  cases h1
  refine hb w σ H1 m1 (s.fr f1) _ fun v H2 m2 f2 h2 => ?_
  cases h2
  refine ⟨i, j, rfl, rfl, _, rfl, ?_⟩
  cases hk : g i j with
  | true =>
    refine iteT ?_
    refine hc w σ H2 m2 ((s.fr f1).fr f2) _ fun v H3 m3 f3 h3 => ?_
    cases h3
    refine ⟨j, i2, rfl, rfl, _, rfl, ?_⟩
    have := q H3 m3 ((f1.trans f2).trans f3)
    rwa [hk, Bool.true_and] at this
  | false =>
    refine iteF ⟨_, rfl, ?_⟩
    have := q H2 m2 (f1.trans f2)
    rwa [hk, Bool.false_and] at this
/-! built-ins -/
theorem bLenS (T : Bt X.mg) (ha : EV X a ρ μ (Ss s) μ1) (h : s.length ≤ sizeLine) (hg : Gl X "len" := by rfl) (hs : starEach [a] X.env = (false, eval a X.env) :: starEach [] X.env := by rfl) : EV X (.Call (.Name "len" p) [a] [] pos) ρ μ (Ii s.length) μ1 := EV.callB call_len_str T.len PySem.boot_len (AV.cons ha AV.nil hs) (cv_lenS h) hg (by decide) (by decide) hs (by rfl)
theorem bLenL (T : Bt X.mg) (ha : EV X a ρ μ (Ls ds) μ1) (hg : Gl X "len" := by rfl) (hs : starEach [a] X.env = (false, eval a X.env) :: starEach [] X.env := by rfl) : EV X (.Call (.Name "len" p) [a] [] pos) ρ μ (Ii ds.length) μ1 := EV.callB call_len_seq T.len PySem.boot_len (AV.cons ha AV.nil hs) cv_lenL hg (by decide) (by decide) hs (by rfl)
theorem bLenT (T : Bt X.mg) (ha : EV X a ρ μ (Tp ds) μ1) (hg : Gl X "len" := by rfl) (hs : starEach [a] X.env = (false, eval a X.env) :: starEach [] X.env := by rfl) : EV X (.Call (.Name "len" p) [a] [] pos) ρ μ (Ii ds.length) μ1 := EV.callB call_len_seq T.len PySem.boot_len (AV.cons ha AV.nil hs) cv_lenT hg (by decide) (by decide) hs (by rfl)
theorem bLenC {n0 : Nat} (T : Bt X.mg) (ha : EV X a ρ μ (.ptr n0) μ1) (hn : μ1[n0]? = some ds) (hg : Gl X "len" := by rfl) (hs : starEach [a] X.env = (false, eval a X.env) :: starEach [] X.env := by rfl) : EV X (.Call (.Name "len" p) [a] [] pos) ρ μ (Ii ds.length) μ1 := EV.callB call_len_seq T.len PySem.boot_len (AV.cons ha AV.nil hs) (cv_lenC hn) hg (by decide) (by decide) hs (by rfl)
theorem bLenScr {ns : List Int} (T : Bt X.mg) (ha : EV X a ρ μ (.scr ns) μ1) (hg : Gl X "len" := by rfl) (hs : starEach [a] X.env = (false, eval a X.env) :: starEach [] X.env := by rfl) : EV X (.Call (.Name "len" p) [a] [] pos) ρ μ (Ii ns.length) μ1 := EV.callB call_len_seq T.len PySem.boot_len (AV.cons ha AV.nil hs) cv_lenScr hg (by decide) (by decide) hs (by rfl)
theorem bStr (T : Bt X.mg) (ha : EV X a ρ μ (Ii i) μ1) (h : i.natAbs.log2 < 1920) (hg : Gl X "str" := by rfl) (hs : starEach [a] X.env = (false, eval a X.env) :: starEach [] X.env := by rfl) : EV X (.Call (.Name "str" p) [a] [] pos) ρ μ (Ss (toString i : String)) μ1 := EV.callTy call_str_int T.str (by decide +kernel) (AV.cons ha AV.nil hs) (cv_str h) hg (by decide) (by decide) hs (by rfl)
theorem bIntI (T : Bt X.mg) (ha : EV X a ρ μ (Ii i) μ1) (hg : Gl X "int" := by rfl) (hs : starEach [a] X.env = (false, eval a X.env) :: starEach [] X.env := by rfl) : EV X (.Call (.Name "int" p) [a] [] pos) ρ μ (Ii i) μ1 := EV.callTy call_int1 T.int (by decide +kernel) (AV.cons ha AV.nil hs) cv_int1 hg (by decide) (by decide) hs (by rfl)
theorem bIntS (T : Bt X.mg) (ha : EV X a ρ μ (Ss s) μ1) (h : PySem.intText? s = some i) (hl : s.length ≤ 640) (hg : Gl X "int" := by rfl) (hs : starEach [a] X.env = (false, eval a X.env) :: starEach [] X.env := by rfl) : EV X (.Call (.Name "int" p) [a] [] pos) ρ μ (Ii i) μ1 := EV.callTy call_int_str T.int (by decide +kernel) (AV.cons ha AV.nil hs) (cv_intS h hl) hg (by decide) (by decide) hs (by rfl)
theorem bAll {bs : List Bool} (T : Bt X.mg) (hc : X.calm = true) (ha : EV X a ρ μ (Ls (bs.map .bool)) μ1) (hg : Gl X "all" := by rfl) (hs : starEach [a] X.env = (false, eval a X.env) :: starEach [] X.env := by rfl) : EV X (.Call (.Name "all" p) [a] [] pos) ρ μ (Bb (bs.all id)) μ1 := EV.callB (cr_all hc) T.all (by decide +kernel) (AV.cons ha AV.nil hs) cv_all hg (by decide) (by decide) hs (by rfl)
theorem bAny {bs : List Bool} (T : Bt X.mg) (hc : X.calm = true) (ha : EV X a ρ μ (Ls (bs.map .bool)) μ1) (hg : Gl X "any" := by rfl) (hs : starEach [a] X.env = (false, eval a X.env) :: starEach [] X.env := by rfl) : EV X (.Call (.Name "any" p) [a] [] pos) ρ μ (Bb (bs.any id)) μ1 := EV.callB (cr_any hc) T.any (by decide +kernel) (AV.cons ha AV.nil hs) cv_any hg (by decide) (by decide) hs (by rfl)
theorem bTupL (T : Bt X.mg) (ha : EV X a ρ μ (Ls ds) μ1) (hg : Gl X "tuple" := by rfl) (hs : starEach [a] X.env = (false, eval a X.env) :: starEach [] X.env := by rfl) : EV X (.Call (.Name "tuple" p) [a] [] pos) ρ μ (Tp ds) μ1 := EV.callTy call_tuple_of T.tuple (by decide +kernel) (AV.cons ha AV.nil hs) cv_tupL hg (by decide) (by decide) hs (by rfl)
theorem bLstT (T : Bt X.mg) (ha : EV X a ρ μ (Tp ds) μ1) (hg : Gl X "list" := by rfl) (hs : starEach [a] X.env = (false, eval a X.env) :: starEach [] X.env := by rfl) : EV X (.Call (.Name "list" p) [a] [] pos) ρ μ (Ls ds) μ1 := EV.callTy call_list_of T.list (by decide +kernel) (AV.cons ha AV.nil hs) cv_lstT hg (by decide) (by decide) hs (by rfl)
theorem bAbs (T : Bt X.mg) (ha : EV X a ρ μ (Ii i) μ1) (hg : Gl X "abs" := by rfl) (hs : starEach [a] X.env = (false, eval a X.env) :: starEach [] X.env := by rfl) : EV X (.Call (.Name "abs" p) [a] [] pos) ρ μ (Ii (if i < 0 then -i else i)) μ1 := EV.callB call_abs T.abs (by decide +kernel) (AV.cons ha AV.nil hs) cv_abs hg (by decide) (by decide) hs (by rfl)
theorem isI (T : Bt X.mg) {T' : String} {n : Str} (ha : EV X a ρ μ (.dat d) μ1) (hk : kitB (tyD d) T' = some k) (hvT : bootBuiltins n = some (.type T')) (hmT : X.mg n = none) (hg : Gl X "isinstance" := by rfl) (hgT : Gl X n := by rfl) (hn : n ≠ "__name__" := by decide)
    (hdb : (n == ("__debug__" : Str)) = false := by decide)
    (he : starEach [a, .Name n p2] X.env = (false, eval a X.env) :: starEach [.Name n p2] X.env := by rfl) (he2 : starEach [.Name n p2] X.env = (false, eval (.Name n p2) X.env) :: starEach [] X.env := by rfl) (hpl : (backTo pos (starEach [.Name n p2] X.env)).any (·.1) = false := by rfl) (hob : isObj d = false := by first | rfl | assumption) :
    EV X (.Call (.Name "isinstance" p) [a, .Name n p2] [] pos) ρ μ (Bb k) μ1 := EV.isi ha hob hk T.isinstance hmT hvT hg hgT hn hdb he he2 hpl
theorem ixT (ha : EV X a ρ μ (Tp ds) μ1) (hb : EV X b ρ μ1 (Ii i) μ2) (h : atI ds i = some d) (hs : PlainIx b := by exact fun _ _ => rfl) : EV X (.Subscript a b pos) ρ μ (.dat d) μ2 := EV.ix ix_tup ha hb (r2_ixT h) hs
theorem ixL (ha : EV X a ρ μ (Ls ds) μ1) (hb : EV X b ρ μ1 (Ii i) μ2) (h : atI ds i = some d) (hs : PlainIx b := by exact fun _ _ => rfl) : EV X (.Subscript a b pos) ρ μ (.dat d) μ2 := EV.ix ix_list ha hb (r2_ixL h) hs
theorem ixC {n0 : Nat} (ha : EV X a ρ μ (.ptr n0) μ1) (hb : EV X b ρ μ1 (Ii i) μ2) (hn : μ2[n0]? = some ds) (h : atI ds i = some d) (hs : PlainIx b := by exact fun _ _ => rfl) : EV X (.Subscript a b pos) ρ μ (.dat d) μ2 := EV.ix ix_list ha hb (r2_ixC hn h) hs
theorem ixS {c0 : Nat} (ha : EV X a ρ μ (Ss s) μ1) (hb : EV X b ρ μ1 (Ii i) μ2) (hl : s.length ≤ sizeLine) (h : atI s.cps.toList i = some c0) (hs : PlainIx b := by exact fun _ _ => rfl) : EV X (.Subscript a b pos) ρ μ (Ss ⟨#[c0]⟩) μ2 := EV.ix ix_str ha hb (r2_ixS hl h) hs
end
end J
/-! J7: defs by name, contracts by data. -/
namespace J
open PySem PySem.Spec
open PyProof.Rows L2

abbrev Con := List Ent → Sto → Ent → Sto → Prop
def fn1 (pre : PyData → Prop) (f : PyData → PyData) : Con := fun rs μ r μ' => ∃ d, rs = [.dat d] ∧ pre d ∧ r = .dat (f d) ∧ μ' = μ
def fn2 (pre : PyData → PyData → Prop) (f : PyData → PyData → PyData) : Con := fun rs μ r μ' => ∃ d e, rs = [.dat d, .dat e] ∧ pre d e ∧ r = .dat (f d e) ∧ μ' = μ
def fn3 (pre : PyData → PyData → PyData → Prop) (f : PyData → PyData → PyData → PyData) : Con := fun rs μ r μ' => ∃ d e g, rs = [.dat d, .dat e, .dat g] ∧ pre d e g ∧ r = .dat (f d e g) ∧ μ' = μ
structure Df (K : PySem.W.Frag) (mg : Str → Option Value) (n : Str) (st : Stmt) : Prop where
  ex : ∃ f fd, Fun K n n st f fd ∧ mg n = some (.ref f)
section
variable {w : World} {P : Program} {K : PySem.W.Frag} {base : Heap} {mg : Str → Option Value}
theorem Df.calN {x : Str} {st : Stmt} {N ps : List Str} {k : Nat} {C : Con} (D : Df K mg x st) (Sc : FnScope N ps (defScope st))
    (hb : ∀ (kV doc pm : Value) (an : Option Addr) (cdv ct : Value) (us : List Value), us.length = ps.length → bindArgs (PySem.W.fnOf x x (defArgs st) (defBody st) (defScope st) .none kV doc pm an cdv ct) ⟨us, []⟩ = pure (ps.zip us))
    (hN : ps.length ≤ N.length) (hlen : ∀ rs μ r μ', C rs μ r μ' → μ'.length = μ.length)
    (body : ∀ (f : Addr) (cdv : Value) (A : Around) (outer : List Env) (s : Shared) (H : Hp) (E : XK), Room k (A.deeper (envOfC x (defScope st) s.heap.objs.size f cdv)) → ∀ rs μ r μ', C rs μ r μ' →
      ST (cxOf CX0 P w K mg base N x (defScope st) f cdv A outer s H E).nox W0 μ.length (defBody st) (rs.map some ++ List.replicate (N.length - rs.length) none) μ (Post r μ')) : Cal P w K mg base x (k + 1) ps C := by
  obtain ⟨f, fd, F, hm⟩ := D.ex
  exact Cal.mk' F hm Sc (F.binds hb) hN hlen fun cdv A outer s H E hr rs μ r μ' _ hC => body f cdv A outer s H E hr rs μ r μ' hC
theorem Df.cal {x : Str} {st : Stmt} {N ps : List Str} {k : Nat} {C : Con} (D : Df K mg x st) (Sc : FnScope N ps (defScope st))
    (hb : ∀ (kV doc pm : Value) (an : Option Addr) (cdv ct : Value) (us : List Value), us.length = ps.length → bindArgs (PySem.W.fnOf x x (defArgs st) (defBody st) (defScope st) .none kV doc pm an cdv ct) ⟨us, []⟩ = pure (ps.zip us))
    (hN : ps.length ≤ N.length) (hlen : ∀ rs μ r μ', C rs μ r μ' → μ'.length = μ.length)
    (body : ∀ (f : Addr) (cdv : Value) (A : Around) (outer : List Env) (s : Shared) (H : Hp) (E : XK), Room k (A.deeper (envOfC x (defScope st) s.heap.objs.size f cdv)) → ∀ rs μ r μ', C rs μ r μ' →
      ST (cxOf CX0 P w K mg base N x (defScope st) f cdv A outer s H E).nox W0 μ.length (defBody st) (rs.map some ++ List.replicate (N.length - rs.length) none) μ (PostR r μ')) : Cal P w K mg base x (k + 1) ps C :=
  D.calN Sc hb hN hlen fun f cdv A outer s H E hr rs μ r μ' hC => (body f cdv A outer s H E hr rs μ r μ' hC).mono fun o ho => by
    cases o with
    | ret r' ν => exact ho
    | nx ρ ν => exact False.elim ho
    | brk ρ ν => exact False.elim ho
    | ct ρ ν => exact False.elim ho
    | rse ρ ν C fs => exact False.elim ho
end
section
variable {X : Cx} {ρ : REnv} {μ μ1 μ2 μ3 : Sto} {n : Str} {i : Int} {s : Str} {pos : Pos}
theorem gI (h : ∃ t, X.mg n = some (.int i t)) (hg : Gl X n := by rfl) (hd : (n == ("__debug__" : Str)) = false := by decide) : EV X (.Name n pos) ρ μ (Ii i) μ := by
  obtain ⟨t, h⟩ := h
  exact gl (v := .int i) h ⟨t, rfl⟩ (fun _ => .int i) hg hd
theorem gS (h : ∃ t, X.mg n = some (.str s t)) (hg : Gl X n := by rfl) (hd : (n == ("__debug__" : Str)) = false := by decide) : EV X (.Name n pos) ρ μ (Ss s) μ := by
  obtain ⟨t, h⟩ := h
  exact gl (v := .str s) h ⟨t, rfl⟩ (fun _ => .str s) hg hd
end
section
variable {X : Cx} {W : WX} {ρ : REnv} {μ μ1 μ2 : Sto} {a b c e : Expr} {es rest : List Expr} {pos : Pos} {k l : Bool} {z : Ent} {n : Nat} {sts body orelse : List Stmt} {P : Out → Prop}
/-- and, or of tests that may all be asked -/
theorem WV.andP (h : TV X a ρ μ k μ) (h2 : WV X (.BoolOp .And (b :: es) pos) ρ μ l μ) : WV X (.BoolOp .And (a :: b :: es) pos) ρ μ (k && l) μ := by
  cases k with
  | true => exact WV.and h (fun z => by cases z) fun _ => by simpa using h2
  | false => exact WV.and h (fun _ => ⟨rfl, rfl⟩) fun z => by cases z
theorem WV.orP (h : TV X a ρ μ k μ) (h2 : WV X (.BoolOp .Or (b :: es) pos) ρ μ l μ) : WV X (.BoolOp .Or (a :: b :: es) pos) ρ μ (k || l) μ := by
  cases k with
  | false => exact WV.or h (fun z => by cases z) fun _ => by simpa using h2
  | true => exact WV.or h (fun _ => ⟨rfl, rfl⟩) fun z => by cases z
/-- the second asked only where the first says so -/
theorem WV.andD (h : TV X a ρ μ k μ) (h2 : k = true → WV X (.BoolOp .And (b :: es) pos) ρ μ l μ) : WV X (.BoolOp .And (a :: b :: es) pos) ρ μ (k && l) μ := by
  cases k with
  | true => exact WV.and h (fun z => by cases z) fun _ => by simpa using h2 rfl
  | false => exact WV.and h (fun _ => ⟨rfl, rfl⟩) fun z => by cases z
theorem WV.orD (h : TV X a ρ μ k μ) (h2 : k = false → WV X (.BoolOp .Or (b :: es) pos) ρ μ l μ) : WV X (.BoolOp .Or (a :: b :: es) pos) ρ μ (k || l) μ := by
  cases k with
  | false => exact WV.or h (fun z => by cases z) fun _ => by simpa using h2 rfl
  | true => exact WV.or h (fun _ => ⟨rfl, rfl⟩) fun z => by cases z
theorem EV.andD (h : EV X a ρ μ (Bb k) μ) (h2 : k = true → EV X (.BoolOp .And (b :: es) pos) ρ μ (Bb l) μ) : EV X (.BoolOp .And (a :: b :: es) pos) ρ μ (Bb (k && l)) μ := by
  cases k with
  | true => exact EV.and h (fun z => by cases z) fun _ => by simpa using h2 rfl
  | false => exact EV.and h (fun _ => ⟨rfl, rfl⟩) fun z => by cases z
theorem EV.orD (h : EV X a ρ μ (Bb k) μ) (h2 : k = false → EV X (.BoolOp .Or (b :: es) pos) ρ μ (Bb l) μ) : EV X (.BoolOp .Or (a :: b :: es) pos) ρ μ (Bb (k || l)) μ := by
  cases k with
  | false => exact EV.or h (fun z => by cases z) fun _ => by simpa using h2 rfl
  | true => exact EV.or h (fun _ => ⟨rfl, rfl⟩) fun z => by cases z
/-- if c: return ..; what follows -/
theorem ST.ifR (h : TV X c ρ μ k μ1) (h1 : k = true → ST X W n body ρ μ1 P) (h2 : k = false → ST X W n sts ρ μ1 P) (hP : ∀ ρ μ, P (.nx ρ μ) → False := by exact fun _ _ z => z) : ST X W n (.If c body [] pos :: sts) ρ μ P := by
  refine ST.iff h (fun hk => (h1 hk).mono fun o ho => ?_) fun hk => ST.nil (h2 hk)
  cases o with
  | nx ρ' μ' => exact (hP _ _ ho).elim
  | ret r m => exact ho
  | brk ρ' m => exact ho
  | ct ρ' m => exact ho
  | rse ρ' m C fs => exact ho
/-- the same where the way that returns is known not to be gone -/
theorem ST.ifNo (h : TV X c ρ μ k μ1) (hk : k = false) (h2 : ST X W n sts ρ μ1 P) : ST X W n (.If c body [] pos :: sts) ρ μ P := ST.iff h (fun z => by rw [hk] at z; cases z) fun _ => ST.nil h2
theorem ST.ifYes (h : TV X c ρ μ k μ1) (hk : k = true) (h1 : ST X W n body ρ μ1 P) (hP : ∀ ρ μ, P (.nx ρ μ) → False := by exact fun _ _ z => z) : ST X W n (.If c body [] pos :: sts) ρ μ P := ST.ifR h (fun _ => h1) (fun z => by rw [hk] at z; cases z) hP
theorem ST.retP {r : Ent} {r' : Ent} {ν : Sto} (h : EV X e ρ μ r' ν) (e1 : frz n ν r' = r) (e2 : ν.take n = μ2 := by simp) : ST X W n (.Return (some e) pos :: sts) ρ μ (PostR r μ2) := ST.ret h ⟨e1, e2⟩
end
theorem post_no {r : Ent} {μ : Sto} {ρ : REnv} {ν : Sto} (h : r ≠ Nn) : Post r μ (.nx ρ ν) → False := fun z => h z.1
def isIntL : PyData → Bool
  | .bool _ => true
  | .int _ => true
  | _ => false
theorem kit_int_NoneType : kitB "NoneType" "int" = some false := by decide +kernel
theorem kit_int_bool : kitB "bool" "int" = some true := by decide +kernel
theorem kit_int_int : kitB "int" "int" = some true := by decide +kernel
theorem kit_int_str : kitB "str" "int" = some false := by decide +kernel
theorem kit_int_list : kitB "list" "int" = some false := by decide +kernel
theorem kit_int_tuple : kitB "tuple" "int" = some false := by decide +kernel
theorem kit_int_dict : kitB "dict" "int" = some false := by decide +kernel
theorem kit_int (d : PyData) : kitB (tyD d) "int" = some (isIntL d) := by
  cases d
  · exact kit_int_NoneType
  · exact kit_int_bool
  · exact kit_int_int
  · exact kit_int_str
  · exact kit_int_list
  · exact kit_int_tuple
  · exact kit_int_dict
def isBoolL : PyData → Bool
  | .bool _ => true
  | _ => false
theorem kit_bool_NoneType : kitB "NoneType" "bool" = some false := by decide +kernel
theorem kit_bool_bool : kitB "bool" "bool" = some true := by decide +kernel
theorem kit_bool_int : kitB "int" "bool" = some false := by decide +kernel
theorem kit_bool_str : kitB "str" "bool" = some false := by decide +kernel
theorem kit_bool_list : kitB "list" "bool" = some false := by decide +kernel
theorem kit_bool_tuple : kitB "tuple" "bool" = some false := by decide +kernel
theorem kit_bool_dict : kitB "dict" "bool" = some false := by decide +kernel
theorem kit_bool (d : PyData) : kitB (tyD d) "bool" = some (isBoolL d) := by
  cases d
  · exact kit_bool_NoneType
  · exact kit_bool_bool
  · exact kit_bool_int
  · exact kit_bool_str
  · exact kit_bool_list
  · exact kit_bool_tuple
  · exact kit_bool_dict
def isStrL : PyData → Bool
  | .str _ => true
  | _ => false
theorem kit_str_NoneType : kitB "NoneType" "str" = some false := by decide +kernel
theorem kit_str_bool : kitB "bool" "str" = some false := by decide +kernel
theorem kit_str_int : kitB "int" "str" = some false := by decide +kernel
theorem kit_str_str : kitB "str" "str" = some true := by decide +kernel
theorem kit_str_list : kitB "list" "str" = some false := by decide +kernel
theorem kit_str_tuple : kitB "tuple" "str" = some false := by decide +kernel
theorem kit_str_dict : kitB "dict" "str" = some false := by decide +kernel
theorem kit_str (d : PyData) : kitB (tyD d) "str" = some (isStrL d) := by
  cases d
  · exact kit_str_NoneType
  · exact kit_str_bool
  · exact kit_str_int
  · exact kit_str_str
  · exact kit_str_list
  · exact kit_str_tuple
  · exact kit_str_dict
def isTupleL : PyData → Bool
  | .tuple _ => true
  | _ => false
theorem kit_tuple_NoneType : kitB "NoneType" "tuple" = some false := by decide +kernel
theorem kit_tuple_bool : kitB "bool" "tuple" = some false := by decide +kernel
theorem kit_tuple_int : kitB "int" "tuple" = some false := by decide +kernel
theorem kit_tuple_str : kitB "str" "tuple" = some false := by decide +kernel
theorem kit_tuple_list : kitB "list" "tuple" = some false := by decide +kernel
theorem kit_tuple_tuple : kitB "tuple" "tuple" = some true := by decide +kernel
theorem kit_tuple_dict : kitB "dict" "tuple" = some false := by decide +kernel
theorem kit_tuple (d : PyData) : kitB (tyD d) "tuple" = some (isTupleL d) := by
  cases d
  · exact kit_tuple_NoneType
  · exact kit_tuple_bool
  · exact kit_tuple_int
  · exact kit_tuple_str
  · exact kit_tuple_list
  · exact kit_tuple_tuple
  · exact kit_tuple_dict
section
variable {X : Cx} {W : WX} {ρ : REnv} {μ μ1 μ2 : Sto} {a b c e : Expr} {es rest : List Expr} {pos : Pos} {k l : Bool} {z : Ent} {n : Nat} {sts body orelse : List Stmt} {P : Out → Prop}
theorem WV.orT (h : TV X a ρ μ k μ1) (hk : k = true := by rfl) : WV X (.BoolOp .Or (a :: b :: es) pos) ρ μ true μ1 := WV.or h (fun _ => ⟨rfl, rfl⟩) fun z => by rw [hk] at z; cases z
theorem WV.orF (h : TV X a ρ μ k μ1) (h2 : WV X (.BoolOp .Or (b :: es) pos) ρ μ1 l μ2) (hk : k = false := by rfl) : WV X (.BoolOp .Or (a :: b :: es) pos) ρ μ l μ2 := WV.or h (fun z => by rw [hk] at z; cases z) fun _ => h2
theorem WV.andF (h : TV X a ρ μ k μ1) (hk : k = false := by rfl) : WV X (.BoolOp .And (a :: b :: es) pos) ρ μ false μ1 := WV.and h (fun _ => ⟨rfl, rfl⟩) fun z => by rw [hk] at z; cases z
theorem WV.andT (h : TV X a ρ μ k μ1) (h2 : WV X (.BoolOp .And (b :: es) pos) ρ μ1 l μ2) (hk : k = true := by rfl) : WV X (.BoolOp .And (a :: b :: es) pos) ρ μ l μ2 := WV.and h (fun z => by rw [hk] at z; cases z) fun _ => h2
theorem EV.orT (h : EV X a ρ μ (Bb k) μ1) (hk : k = true := by rfl) : EV X (.BoolOp .Or (a :: b :: es) pos) ρ μ (Bb true) μ1 := EV.or h (fun _ => ⟨rfl, rfl⟩) fun z => by rw [hk] at z; cases z
theorem EV.orF (h : EV X a ρ μ (Bb k) μ1) (h2 : EV X (.BoolOp .Or (b :: es) pos) ρ μ1 z μ2) (hk : k = false := by rfl) : EV X (.BoolOp .Or (a :: b :: es) pos) ρ μ z μ2 := EV.or h (fun z => by rw [hk] at z; cases z) fun _ => h2
theorem EV.andF (h : EV X a ρ μ (Bb k) μ1) (hk : k = false := by rfl) : EV X (.BoolOp .And (a :: b :: es) pos) ρ μ (Bb false) μ1 := EV.and h (fun _ => ⟨rfl, rfl⟩) fun z => by rw [hk] at z; cases z
theorem EV.andT (h : EV X a ρ μ (Bb k) μ1) (h2 : EV X (.BoolOp .And (b :: es) pos) ρ μ1 z μ2) (hk : k = true := by rfl) : EV X (.BoolOp .And (a :: b :: es) pos) ρ μ z μ2 := EV.and h (fun z => by rw [hk] at z; cases z) fun _ => h2
end
theorem sz {n : Nat} (h : n ≤ 1000000) : n ≤ sizeLine := Nat.le_trans h (by decide)
theorem sz2 {n : Nat} (h : n ≤ 1000000) : n + 2 ≤ sizeLine := Nat.le_trans (Nat.add_le_add_right h 2) (by decide)
theorem log_small {i : Int} (h : i.natAbs < 2 ^ 1000) : i.natAbs.log2 < 1920 := by
  by_cases hz : i.natAbs = 0
  · rw [hz]; decide
  · exact Nat.lt_of_lt_of_le ((Nat.log2_lt hz).mpr h) (by decide)
theorem map_bool {α : Type} (l : List α) (f : α → Bool) (g : α → PyData) (h : ∀ a ∈ l, g a = .bool (f a)) : l.map g = (l.map f).map .bool := by
  rw [List.map_map]
  exact List.map_congr_left h
theorem at_nat {α : Type} {xs : List α} {i : Nat} {x : α} (h : xs[i]? = some x) : atI xs (i : Int) = some x := by
  have hl := (List.getElem?_eq_some_iff.mp h).1
  unfold atI ixN
  rw [if_pos (by omega), if_pos (by omega)]
  simpa using h
def sgn1 (f : Nat → Bool) : PyData → PyData
  | .str s => .bool (f (s.cps.toList.headD 0))
  | d => d
theorem sgn1_map (f : Nat → Bool) (s : Str) : (strD s).map (sgn1 f) = (s.cps.toList.map f).map .bool := by
  unfold strD
  rw [List.map_map, List.map_map]
  exact List.map_congr_left fun c _ => rfl
end J
/-! J8: [e for a in xs for b in ys], without tests, the store as it is. -/
namespace J
open PySem PySem.Spec
open PyProof.Rows L2
theorem yes_if {σ : L2.St} {H : Hp} {A B : Hp → Prop} (h : A H) : tYes σ H (fun b H => if b = true then A H else B H) := by
  show (if true = true then A H else B H)
  rw [if_pos rfl]
  exact h
def iC (X : Cx) (scope : Scope) (tg it : Expr) : TI := fun σ H R => ∀ s H0 C cl fp, IX (blkX X scope s H0 C cl fp) tg it σ H R
section
variable {X : Cx} {ρ : REnv} {μ μ1 : Sto} {tg iter tg1 iter1 elt : Expr} {pos : Pos} {ds : List PyData}
theorem pi_C {scope : Scope} (s : Shared) (H : Hp) (C : Addr) (cl : List (Str × Addr)) (fp : List Addr) : PI (X.blk s H scope (compEnvC scope cl C X.env) fp) tg1 iter1 (iC X scope tg1 iter1) :=
  ⟨fun pins s1 σ H1 Q I h => (p_ix (X := blkX X scope s H C cl fp) (tg := tg1) (e := iter1)).run pins s1 σ H1 Q I (h s H C cl fp)⟩
theorem wipe_wipe (vs : List Nat) (σ : L2.St) : wipe (wipe σ vs) vs = wipe σ vs := by
  have aux : ∀ (us : List Nat) (σ : L2.St), (∀ u ∈ us, u ∈ vs) → wipe (wipe σ us) vs = wipe σ vs := by
    intro us
    induction us with
    | nil => intro σ _; rfl
    | cons u us ih =>
      intro σ hu
      show wipe ((wipe σ us).set u none) vs = wipe σ vs
      rw [wipe_set _ _ _ _ (hu u List.mem_cons_self)]
      exact ih σ fun z hz => hu z (List.mem_cons_of_mem _ hz)
  exact aux vs σ fun u h => h
/-- between two turns: D holds acc, all else that was there is there -/
structure Mid (K : PySem.W.Frag) (w : Wd) (D : Addr) (H1 : Hp) (μ : Sto) (acc : List PyData) (H : Hp) : Prop where
  mem : Mem K H (wk' w D) μ
  keep : ∀ b o, H1 b = some o → b ∉ w.α → Nt o → H b = some o
  at_ : ∃ vs, H D = some (.lst vs) ∧ DqAll (dl H (wk' w D).all) vs acc
theorem Mid.fr {K : PySem.W.Frag} {w : Wd} {D : Addr} {H1 H H' : Hp} {acc : List PyData} (h : Mid K w D H1 μ acc H) (f : Fr w.α H H') (m : Mem K H' (wk' w D) μ) : Mid K w D H1 μ acc H' := by
  obtain ⟨vs, e, hd⟩ := h.at_
  exact ⟨m, fun b o e hb nt => f b o (h.keep b o e hb nt) hb nt, vs, f D _ e (h.mem.out D List.mem_cons_self) (fun q z => by cases z), dqAll_mono (Fr.all (w := wk' w D) f) _ _ hd⟩
theorem LCV2.evf {scope : Scope} {own : List (Str × Nat)} {vs1 : List Nat} (F : PyData → List PyData) (f : PyData → PyData → PyData) (hi : IV X tg iter ρ μ ds μ1) (hc : X.calm = true) (hN : X.N.Nodup) (ok : BlkOk X.N X.env.scope scope own) (hv : ∀ i ∈ vs1, i ∈ own.map (·.2))
    (hs : ∀ d ∈ ds, ∃ ρ', (∀ s H C cl fp, GV (blkX X scope s H C cl fp) tg d (wipeE ρ (own.map (·.2))) ρ' (own.map (·.2))) ∧ (∀ s H C cl fp, IV (blkX X scope s H C cl fp) tg1 iter1 ρ' μ1 (F d) μ1) ∧
      ∀ e ∈ F d, ∃ ρ2, (∀ s H C cl fp, GV (blkX X scope s H C cl fp) tg1 e (wipeE ρ' vs1) ρ2 vs1) ∧ ∀ s H C cl fp, EV (blkX X scope s H C cl fp) elt ρ2 μ1 (.dat (f d e)) μ1)
    (hl : ∀ n, ((ds.take n).flatMap fun d => (F d).map (f d)).length ≤ 100000) (hl2 : ∀ n, ∀ d ∈ ds, ∀ m, ((ds.take n).flatMap fun d => (F d).map (f d)).length + m ≤ 100000 ∨ (F d).length < m)
    (hst : ∀ x, foldedSetIterable iter X.env x = pure x := by intro _; rfl) (hst1 : ∀ env x, foldedSetIterable iter1 env x = pure x := by intro _ _; rfl) :
    EVF X (.ListComp elt [⟨tg, iter, [], 0⟩, ⟨tg1, iter1, [], 0⟩] scope pos) ρ μ (ds.flatMap fun d => (F d).map (f d)) μ1 := by
  intro w σ H m s Q q
  refine ⟨_, pe_lc2 hc hN (p_ix (tg := tg) (e := iter)) ok hv pg_C (fun _ _ _ _ _ => pts_nil) pi_C pg_C (fun _ _ _ _ _ => pts_nil) pe_C hst hst1, ?_⟩
  refine hi w σ H m s _ fun J H1 m1 f1 wk => ?_
  intro D hD
  have hD0 : Nw H D := Nw.back f1 (Nw.of hD) (m1.fresh hD)
  refine ⟨fun i n H2 => n = ds.length - i ∧ i ≤ ds.length ∧ Mid X.K w D H1 μ1 ((ds.take i).flatMap fun d => (F d).map (f d)) H2, ⟨ds.length, by simp, Nat.zero_le _, m1.keep hD, fun b o e hb _ => ?_, [], upd_same, by simpa using DqAll.nil⟩, ?_⟩
  · rw [upd_ne (ne_of_none e hD)]
    exact e
  rintro i n H2 ⟨rfl, hi', M2⟩
  obtain ⟨vs, e2, hd2⟩ := M2.at_
  have m2 := M2.mem
  have g12 : Same (dl H1 w.all) (dl H2 (wk' w D).all) := keep_out (K := X.K) hD M2.keep ⟨_, e2⟩
  have g12' : Same (dl H1 w.all) H2 := g12.trans dl_same
  by_cases hlt : i < ds.length
  · obtain ⟨d, hdi⟩ : ∃ d, ds[i]? = some d := ⟨ds[i], by simp [hlt]⟩
    have hdm : d ∈ ds := List.mem_iff_getElem?.mpr ⟨i, hdi⟩
    have tk : (ds.take (i + 1)).flatMap (fun d => (F d).map (f d)) = (ds.take i).flatMap (fun d => (F d).map (f d)) ++ (F d).map (f d) := by
      rw [List.take_succ, hdi]
      simp
    obtain ⟨go, yl⟩ := wk.go H2 g12' i d hdi
    refine .inr ⟨go, fun H' => Mid X.K w D H1 μ1 ((ds.take (i + 1)).flatMap fun d => (F d).map (f d)) H', fun H' h => ⟨ds.length - (i + 1), by omega, rfl, hlt, h⟩, fun x H3 y3 => ?_⟩
    obtain ⟨s23, dx⟩ := yl x H3 y3
    have dx3 : Dq (dl H3 (wk' w D).all) x d := dx _ g12 fun b hb => (all_wk'.mp hb).elim (fun z => z ▸ ⟨_, e2⟩) fun hb => (List.mem_append.mp hb).elim (fun z => (m2.there z).elim fun vs e => ⟨_, e⟩) fun z => m2.ex1 (List.mem_cons_of_mem _ z)
    have M3 : Mid X.K w D H1 μ1 _ H3 := M2.fr (Fr.of_same s23) (m2.same s23)
    have sl3 : Sl X.K H3 (wk' w D) (wipe σ (own.map (·.2))) (wipeE ρ (own.map (·.2))) := (sl_wipe ((s.fr f1).same2 g12) _).fr (w := wk' w D) (Fr.of_same s23)
    obtain ⟨ρ', hgv, hiv, hel⟩ := hs d hdm
    intro s' H0 C cl fp
    refine hgv s' H0 C cl fp _ _ H3 μ1 x M3.mem sl3 dx3 _ fun σ4 sl4 ew => ⟨ew.trans (wipe_wipe _ σ), ?_⟩
    refine yes_if ?_
    intro s' H0 C cl fp
    refine hiv s' H0 C cl fp (wk' w D) σ4 H3 M3.mem sl4 _ fun J1 H4 m4 f34 wk1 => ?_
    have M4 : Mid X.K w D H1 μ1 _ H4 := M3.fr f34 m4
    have sl44 : Sl X.K H4 (wk' w D) σ4 ρ' := sl4.fr f34
    refine ⟨fun j k H5 => k = (F d).length - j ∧ j ≤ (F d).length ∧ Mid X.K w D H1 μ1 ((ds.take i).flatMap (fun d => (F d).map (f d)) ++ ((F d).take j).map (f d)) H5 ∧ Fr w.α H4 (fun b => if b = D then H4 D else H5 b), ⟨(F d).length, by simp, Nat.zero_le _, by simpa using M4, fun b o e hb _ => ?_⟩, ?_⟩
    · by_cases z : b = D
      · subst z; simpa using e
      · simpa [z] using e
    rintro j k H5 ⟨rfl, hj', M5, f45⟩
    obtain ⟨us, e5, hd5⟩ := M5.at_
    have m5 := M5.mem
    have g45 : Same (dl H4 (wk' w D).all) (dl H5 (wk' w D).all) := fun b o hb => by
      have nt := dl_nt hb
      obtain ⟨n1, e1⟩ := dl_some hb
      have nD : b ≠ D := fun z => n1 (all_wk'.mpr (.inl z))
      have := f45 b o e1 (fun z => n1 (List.mem_append_left _ z)) nt
      have h2 : (if b = D then H4 D else H5 b) = some o := this
      rw [if_neg nD] at h2
      exact dl_of n1 h2 nt
    have sl5 : Sl X.K H5 (wk' w D) σ4 ρ' := sl44.same g45
    by_cases hjt : j < (F d).length
    · obtain ⟨e, hej⟩ : ∃ e, (F d)[j]? = some e := ⟨(F d)[j], by simp [hjt]⟩
      have hem : e ∈ F d := List.mem_iff_getElem?.mpr ⟨j, hej⟩
      obtain ⟨go1, yl1⟩ := wk1.go H5 (g45.trans dl_same) j e hej
      refine .inr ⟨go1, fun H' => Mid X.K w D H1 μ1 ((ds.take i).flatMap (fun d => (F d).map (f d)) ++ ((F d).take (j + 1)).map (f d)) H' ∧ Fr w.α H4 (fun b => if b = D then H4 D else H' b), fun H' h => ⟨(F d).length - (j + 1), by omega, rfl, hjt, h⟩, fun x1 H6 y6 => ?_⟩
      obtain ⟨s56, dx1⟩ := yl1 x1 H6 y6
      have dx6 : Dq (dl H6 (wk' w D).all) x1 e := dx1 _ g45 fun b hb => (all_wk'.mp hb).elim (fun z => z ▸ ⟨_, e5⟩) fun hb => (List.mem_append.mp hb).elim (fun z => (m5.there z).elim fun vs e => ⟨_, e⟩) fun z => m5.ex1 (List.mem_cons_of_mem _ z)
      have M6 : Mid X.K w D H1 μ1 _ H6 := M5.fr (Fr.of_same s56) (m5.same s56)
      have sl6 : Sl X.K H6 (wk' w D) (wipe σ4 vs1) (wipeE ρ' vs1) := (sl_wipe sl5 _).fr (w := wk' w D) (Fr.of_same s56)
      obtain ⟨ρ2, hg2, hev⟩ := hel e hem
      intro s' H0 C cl fp
      refine hg2 s' H0 C cl fp _ _ H6 μ1 x1 M6.mem sl6 dx6 _ fun σ7 sl7 ew1 => ⟨ew1.trans (wipe_wipe _ σ4), ?_⟩
      refine yes_if ?_
      intro s' H0 C cl fp
      refine hev s' H0 C cl fp (wk' w D) σ7 H6 M6.mem sl7 _ fun v H8 m8 f68 hv => ?_
      have M8 : Mid X.K w D H1 μ1 _ H8 := M6.fr f68 m8
      obtain ⟨us8, e8, hd8⟩ := M8.at_
      refine ⟨us8, e8, ?_, ⟨m8.outs, fun b o e hb nt => ?_, us8 ++ [v], upd_same, ?_⟩, fun b o e hb nt => ?_⟩
      · rw [dqAll_len hd8, List.length_append, List.length_map, List.length_take]
        rcases hl2 i d hdm (j + 1) with z | z
        · have : min j (F d).length = j := by omega
          rw [this]
          exact Nat.lt_of_lt_of_le (Nat.lt_of_succ_le z) (by decide)
        · omega
      · rw [upd_ne (ne_of_none e hD)]
        exact M8.keep b o e hb nt
      · have t2 : ((F d).take (j + 1)).map (f d) = ((F d).take j).map (f d) ++ [f d e] := by
          rw [List.take_succ, hej]
          simp
        rw [t2, ← List.append_assoc]
        exact dqAll_append (dqAll_mono same_outs _ _ hd8) (.cons (dq_mono same_outs _ _ hv) .nil)
      · by_cases z : b = D
        · subst z; simpa using e
        · simp only [z, if_false, upd_ne z]
          have := f45 b o e hb nt
          have h2 : (if b = D then H4 D else H5 b) = some o := this
          rw [if_neg z] at h2
          exact f68 b o (s56 _ _ h2) hb nt
    · have ej : j = (F d).length := by omega
      subst ej
      refine .inl ⟨wk1.stop H5 (g45.trans dl_same), ?_⟩
      rw [List.take_length] at M5
      show Mid X.K w D H1 μ1 _ H5
      rw [tk]
      exact M5
  · have ei : i = ds.length := by omega
    subst ei
    rw [List.take_length] at M2 hd2
    exact .inl ⟨wk.stop H2 g12', q D H2 vs m2 (f1.trans M2.keep) hD0 e2 hd2⟩
end
end J
/-! J9: enumerate over a tuple. -/
namespace PySem
open Sem (wp)
open AutoSeq1 (wpAny_loadPart')
/-- enumerate.__new__ of a tuple (any object of that type) -/
theorem jEnumNew (l : Addr) (items : Array Value) (n : Nat) (oc : Value) (dct : Option Addr) (sl : Array (Option Value)) :
    Meets (Builtin.«enumerate.__new__» ⟨[.type "enumerate", .ref l], []⟩) fun _ R s =>
      s.heap.get? l = some { cls := .type "tuple", dict := dct, data := .seq items n, slots := sl } ∧
      R (.ok (.ret (.ref (s.heap.push { cls := .type "tuple_iterator", data := .fields #[.ref l, .int 0 0] }).objs.size)))
        { s with heap := (s.heap.push { cls := .type "tuple_iterator", data := .fields #[.ref l, .int 0 0] }).push ({ cls := .type "enumerate", data := .fields #[.none, .bool false, .ref s.heap.objs.size, rawInt 0, .none, .none] } : Obj) } :=
  .of_wp fun prog w A R s hh => by
    obtain ⟨hp, gs, dr, tt, os⟩ := s
    obtain ⟨hl, hR⟩ := hh
    have hs1 := sub_enumerate
    have hT : Heap.IsTuple (Shared.heap ⟨hp, gs, dr, tt, os⟩) l items := ⟨_, hl, rfl, n, rfl⟩
    wp_walk using wpAny_loadPart' hl
    refine wpAny_stack_any fun _ => wpAny_pure ?_
    split
    · rename_i c _ _ _ _ _
      cases (c == Value.type "enumerate") <;> (wp_walk using wpAny_loadPart' hl, wpAny_pyIter_tuple hT; exact ⟨_, rfl, hR⟩)
    · wp_walk using wpAny_loadPart' hl, wpAny_pyIter_tuple hT
      exact ⟨_, rfl, hR⟩
section
variable {prog : Program} {w : World} {A : Around} {E : Value → Shared → Prop} {s : Shared}
theorem jEnumCall {l : Addr} {items : Array Value} {Q : Value → Shared → Prop} (hT : s.heap.IsTuple l items)
    (hq : ∀ g, IsEnum g (s.heap.objs.size + 1) s.heap.objs.size 0 .none → g.IsTupleIter s.heap.objs.size l 0 → (∀ b o, s.heap.get? b = some o → g.get? b = some o) → Q (.ref (s.heap.objs.size + 1)) { s with heap := g }) :
    wpAny (model prog w) A (call (.type "enumerate") [.ref l]) Q E s := by
  obtain ⟨⟨c, dct, dt, sl⟩, hl, hc, n, hd⟩ := hT
  obtain rfl : c = .type "tuple" := hc
  obtain rfl : dt = .seq items n := hd
  refine callType_new F.called_enumerate (by decide) (F.typeCall_enumerate_1 _) (F.newCall_enumerate_1 _) (fun ob => F.args_object_init_2 ob _) F.entry_enumerate_new (jEnumNew l items n .none dct sl) ⟨hl, ?_⟩
  have hz : (s.heap.push ({ cls := .type "tuple_iterator", data := .fields #[.ref l, .int 0 0] } : Obj)).objs.size = s.heap.objs.size + 1 := Heap.size_push ..
  show _ ∧ _
  rw [hz]
  have he := Heap.get?_push_size (s.heap.push ({ cls := .type "tuple_iterator", data := .fields #[.ref l, .int 0 0] } : Obj)) (o := { cls := .type "enumerate", data := .fields #[.none, .bool false, .ref s.heap.objs.size, rawInt 0, .none, .none] }) rfl
  rw [hz] at he
  exact ⟨⟨_, he, rfl⟩, hq _ he ⟨_, Heap.get?_push_of_some _ (Heap.get?_push_size _ rfl), rfl, rfl⟩ fun b o x => Heap.get?_push_of_some _ (Heap.get?_push_of_some _ x)⟩
end
end PySem
namespace J
open PySem PySem.Spec
open PyProof.Rows L2
/-- the tuple at a, each item in a new pair -/
def ItT (K : PySem.W.Frag) (a : Addr) : It :=
  ⟨fun i H => ∃ (ys : List V) (y : V), SqT K H a ys ∧ ys[i]? = some y, fun i H v H' => ∃ T y, v = .ref T ∧ H T = none ∧ H' = upd H T (.tup [.int (i : Nat), y]) ∧ ∀ ys, SqT K H a ys → ys[i]? = some y, fun i H => ∃ ys : List V, SqT K H a ys ∧ ys.length = i⟩
theorem turn_enT {P : Program} {w : World} {K : PySem.W.Frag} {elts : List Expr} {kk : Nat} {tpos : Pos} (a e it : Addr) :
    Turn P w K (.Tuple elts kk tpos) (ItT K a) [e, it] e (fun i h => (∃ old, IsEnum h e it ((i : Nat) : Int) old) ∧ h.IsTupleIter it a i ∧ e ≠ it ∧ a ≠ it ∧ e ≠ a) := by
  refine ⟨by simp, fun i h st b hb => ?_, fun i h h' st k => ?_, ?_, ?_, fun A i s Q E st h => ?_⟩
  · obtain ⟨⟨old, he⟩, ⟨o, ho, hc, hd⟩, _⟩ := st
    rcases (by simpa using hb : b = e ∨ b = it) with rfl | rfl
    · exact ⟨_, he, fun v q => nomatch q⟩
    · exact ⟨o, ho, fun v q => by rw [hd] at q; cases q⟩
  · obtain ⟨⟨old, he⟩, hi, hne⟩ := st
    exact ⟨⟨old, k e (by simp) _ he⟩, hi.at fun o q => k it (by simp) o q, hne⟩
  · intro X hP hw hK hc i pins s σ H E I hf st hg
    subst hP hw hK
    obtain ⟨⟨old, he⟩, hit, hne, hai, hea⟩ := st
    obtain ⟨ys, y, hq, hy⟩ := hg
    obtain ⟨its, rv, tp, hz⟩ := I.tuple hq
    obtain ⟨u, hu, ru⟩ := rv.get hy
    have hel : e < s.heap.objs.size := Heap.lt_size he
    have hil : it < s.heap.objs.size := by
      obtain ⟨_, q, _⟩ := hit
      exact Heap.lt_size q
    have hlt : i < its.toArray.size := by
      have := (List.getElem?_eq_some_iff.mp hu).1
      simpa using this
    have D := Draws.tuple (prog := X.prog) (w := X.w) (A := X.A.in1) (I.ok.hd hc) it a hai its.toArray
    refine wpAny_pyNext_enum_itemD D he ⟨hit, tp⟩ hlt hne (by simp [hne, hea]) fun x h' tk hx ho hit' hT hsz hk => ?_
    have ex : x = u := by
      have h1 : its[i]? = some x := by simpa using hx
      rw [hu] at h1
      exact (Option.some.inj h1).symm
    subst ex
    refine ⟨_, rfl, wpAny_letOwnedTupleGo_enum (s := { s with heap := h', toks := tk + 1 }) ho fun h'' he' sb => ?_⟩
    have hT2 := (sb.2 _ (Nat.ne_of_gt hel)).trans hT
    have new : ObjOk X.prog X.w (upd H s.heap.objs.size (.tup [.int (i : Nat), y])) h'' s.heap.objs.size (.tup [.int (i : Nat), y]) :=
      ⟨by show 2 ≤ sizeLine; decide, [.int i tk, x], .cons ⟨_, rfl⟩ (.cons ru .nil), ⟨_, hT2, rfl, _, rfl⟩⟩
    have I1 : Inv X pins σ (upd H s.heap.objs.size (.tup [.int (i : Nat), y])) { s with heap := h'', toks := tk + 1 } :=
      I.turnedNew (ch := [e, it]) (fun b ob hb q => (sb.2 b fun z => hb (by simp [z])).trans (hk b ob (fun z => hb (by simp [z])) (fun z => hb (by simp [z])) q)) hf (Nat.le_refl _) new
    refine ⟨.ref s.heap.objs.size, _, I1, rfl, ⟨_, y, rfl, I.hok.fresh (Nat.le_refl _), rfl, fun zs hzs => by rw [I.tuple_inj hzs hq]; exact hy⟩, ⟨⟨x, ?_⟩, hit'.1.at fun o q => (sb.2 it (Ne.symm hne)).trans q, hne, hai, hea⟩, fun b hb => ?_⟩
    · have e1 : ((i + 1 : Nat) : Int) = (i : Int) + 1 := by omega
      rw [e1]
      exact he'
    · have hb' : b < s.heap.objs.size := by
        rcases (by simpa using hb : b = e ∨ b = it) with rfl | rfl
        · exact hel
        · exact hil
      rw [upd_ne (Nat.ne_of_lt hb')]
      exact (hf b hb).1
  · intro X hP hw hK hc i pins s σ H E I hf st hg
    subst hP hw hK
    obtain ⟨⟨old, he⟩, hit, hne, hai, hea⟩ := st
    obtain ⟨ys, hq, hy⟩ := hg
    obtain ⟨its, rv, tp, hz⟩ := I.tuple hq
    obtain ⟨f0, f1, f2, f3, f4, f5⟩ := hf it (by simp)
    have D := Draws.tuple (prog := X.prog) (w := X.w) (A := X.A.in1) (I.ok.hd hc) it a hai its.toArray
    have hn : its.toArray.size = i := by rw [List.size_toArray, ← rv.length, hy]
    refine wpAny_pyNext_enum_endD D he (by rw [hn]; exact ⟨hit, tp⟩) fun h' eb => ⟨rfl, I.turned (t' := s.toks) (fun b o hb q => eb b o hb q) f0 f1 f3 f4 f5⟩
  · obtain ⟨⟨_, he⟩, _⟩ := st
    exact wpAny_pyIter_enum he h
section
variable {X : Cx} {ρ : REnv} {μ μ1 : Sto} {e : Expr} {ds : List PyData} {p pos tpos : Pos} {elts : List Expr} {kk : Nat}
def iEnT (K : PySem.W.Frag) (ta : TA) : TI := fun σ H R => ta σ H fun vs H1 => ∃ a xs, vs = [.ref a] ∧ SqT K H1 a xs ∧ R (ItT K a) H1
theorem pi_enT {ta : TA} (hg : Gl X "enumerate") (hm : X.mg "enumerate" = none) (ha : PA X [e] ta) (hs : starEach [e] X.env = [(false, eval e X.env)]) : PI X (.Tuple elts kk tpos) (.Call (.Name "enumerate" p) [e] [] pos) (iEnT X.K ta) := by
  refine ⟨fun pins s σ H R I h => ?_⟩
  refine Call_ (ld_blt I hg hm boot_enumerate (PyProof.Rows.callWith_type1 (thn (ha.run pos pins s σ H _ I h) fun us s1 hh => ?_) hs rfl))
  obtain ⟨vs, H1, I1, r1, a, xs, rfl, hq, q⟩ := hh
  obtain ⟨u, rfl, ru⟩ := vals1 r1
  obtain rfl : u = Value.ref a := ru
  obtain ⟨its, rv, tp, hz⟩ := I1.tuple hq
  have hal : a < s1.heap.objs.size := by
    obtain ⟨o, ho, _⟩ := tp
    exact Heap.lt_size ho
  refine jEnumCall (show s1.heap.IsTuple a its.toArray from tp) fun h' he hit hk => wpAny_pyIter_enum he ?_
  have I2 : Inv X pins σ H1 { s1 with heap := h' } := I1.kept (t' := s1.toks) hk
  refine ⟨s1.heap.objs.size + 1, [s1.heap.objs.size + 1, s1.heap.objs.size], _, _, H1, rfl, I2, turn_enT a (s1.heap.objs.size + 1) s1.heap.objs.size, ⟨⟨.none, he⟩, hit, Nat.succ_ne_self _, Nat.ne_of_lt hal, ?_⟩, fun b hb => ?_, q⟩
  · exact Ne.symm (Nat.ne_of_lt (Nat.lt_succ_of_lt hal))
  · have hle : s1.heap.objs.size ≤ b := by
      rcases (by simpa using hb : b = s1.heap.objs.size + 1 ∨ b = s1.heap.objs.size) with z | z
      · rw [z]; exact Nat.le_add_right _ _
      · rw [z]; exact Nat.le_refl _
    exact I1.fpOk hle (I1.hok.fresh hle)
theorem IV.enumT (h : EV X e ρ μ (Tp ds) μ1) (hm : X.mg "enumerate" = none) (hg : Gl X "enumerate" := by rfl) (hs : starEach [e] X.env = [(false, eval e X.env)] := by rfl) :
    IV X (.Tuple elts kk tpos) (.Call (.Name "enumerate" p) [e] [] pos) ρ μ (enD 0 ds) μ1 := by
  intro w σ H m s R q
  refine ⟨_, pi_enT hg hm (pa_cons (p_ex (e := e)) pa_nil hs) hs, ?_⟩
  refine h w σ H m s _ fun v H1 m1 f1 h1 => ?_
  cases h1 with
  | tup ha hd =>
    rename_i c vs
    refine ⟨_, _, rfl, SqT.of (dl_some ha).2, q _ H1 m1 f1 ⟨fun H2 st i d e => ?_, fun H2 st => ⟨vs, SqT.of (st _ _ ha), by rw [enD_len, dqAll_len hd]⟩⟩⟩
    obtain ⟨y, hy, rfl⟩ := enD_get e
    obtain ⟨u, hu, du⟩ := dqAll_get hd hy
    refine ⟨⟨vs, u, SqT.of (st _ _ ha), hu⟩, fun x H3 yy => ?_⟩
    obtain ⟨T0, x0, rfl, hT, rfl, hx⟩ := yy
    have e0 := hx vs (SqT.of (st _ _ ha))
    rw [hu] at e0
    cases e0
    refine ⟨Same.new hT, fun T st2 tr => ?_⟩
    have nT : T0 ∉ T := fun z => by
      obtain ⟨o, eo⟩ := tr T0 z
      rw [hT] at eo; cases eo
    have e1 : ((0 + i : Nat) : Int) = ((i : Nat) : Int) := by omega
    rw [e1]
    exact Dq.tup (dl_of nT upd_same) (.cons (.int _) (.cons (dq_mono (st2.trans (dl_new hT)) _ _ du) .nil))
end
end J
/-! J10: lists that change, stars, slices of such lists. -/
namespace J
open PySem PySem.Spec
open PyProof.Rows L2
theorem u65 {k : Nat} {A : Around} (r : Room k A) : A.units + 65 < cLine := by
  have := r.un
  omega
section
variable {X : Cx} {ρ : REnv} {μ μ1 μ2 μ3 : Sto} {x y z r : Ent} {a b c e o : Expr} {es : List Expr} {pos p2 p apos cpos : Pos} {rs : List Ent} {ds out ys : List PyData} {d d2 : PyData} {i j : Int} {s t n : Str} {n0 : Nat}
theorem EV.slC {lo hi : Option Expr} {l h : Option Int} (ha : EV X a ρ μ (.ptr n0) μ1) (hl : PartV X lo ρ μ1 l μ2) (hh : PartV X hi ρ μ2 h μ3) (hn : μ3[n0]? = some ds) : EV X (.Subscript a (.Slice lo hi none p2) pos) ρ μ (Ls (cutD ds l h)) μ3 := by
  intro w σ H m s Q q
  refine ⟨_, pe_slice sl_list (p_ex (e := a)) (p_ox (e := lo)) (p_ox (e := hi)), ?_⟩
  refine ha w σ H m s _ fun v H1 m1 f1 h1 => ?_
  refine hl w σ H1 m1 (s.fr f1) _ fun H2 m2 f2 => ?_
  refine hh w σ H2 m2 ((s.fr f1).fr f2) _ fun H3 m3 f3 => ?_
  obtain ⟨a0, ha0, rfl⟩ := h1
  obtain ⟨vs, e, hd⟩ := m3.cell n0 a0 ds ha0 hn
  exact ⟨_, _, rfl, SqL.of e, new_lst m3 (dq_cut hd l h) fun v H4 m4 f4 h4 => q v H4 m4 (((f1.trans f2).trans f3).trans f4) h4⟩
theorem tNiL (ha : EV X a ρ μ (.dat d) μ1) (hb : EV X b ρ μ1 (Ls ds) μ2) (h1 : flatD d = true) (h2 : ds.all flatD = true) (hm : behindInMarks .NotIn b = false := by rfl) : TV X (.Compare a [.NotIn] [b] pos) ρ μ (!inD d ds) μ2 := TV.cmp op_notIn_seq hm ha hb (r2_inL (neg := true) h1 h2)
/-- a cell is stored anew -/
theorem Mem.put {K : PySem.W.Frag} {H : Hp} {w : Wd} {k : Nat} {a0 : Addr} {vs : List V} (m : Mem K H w μ) (ha : w.α[k]? = some a0) (hd : DqAll (dl H w.all) vs ds) : Mem K (upd H a0 (.lst vs)) w (μ.set k ds) ∧ Fr w.α H (upd H a0 (.lst vs)) := by
  have ham : a0 ∈ w.α := List.mem_iff_getElem?.mpr ⟨k, ha⟩
  have f : Fr w.α H (upd H a0 (.lst vs)) := fun b o e hb _ => by
    have nb : b ≠ a0 := fun z => hb (by rw [z]; exact ham)
    rw [upd_ne nb]
    exact e
  refine ⟨⟨m.nd, by simp [m.len], fun j b xs h1 h2 => ?_, m.out, fun b hb => ?_, tabs_upd m.tab fun u e => ?_⟩, f⟩
  · by_cases hj : k = j
    · subst hj
      rw [ha] at h1
      cases h1
      have hk : k < μ.length := by
        rw [← m.len]
        exact (List.getElem?_eq_some_iff.mp ha).1
      rw [List.getElem?_set] at h2
      simp [hk] at h2
      subst h2
      exact ⟨vs, upd_same, dqAll_mono f.all _ _ hd⟩
    · rw [List.getElem?_set_ne hj] at h2
      obtain ⟨us, e, hd'⟩ := m.cell j b xs h1 h2
      refine ⟨us, ?_, dqAll_mono f.all _ _ hd'⟩
      have nb : b ≠ a0 := fun z => by
        subst z
        obtain ⟨hj1, e1⟩ := List.getElem?_eq_some_iff.mp h1
        obtain ⟨hk1, e2⟩ := List.getElem?_eq_some_iff.mp ha
        rcases Nat.lt_or_gt_of_ne hj with hlt | hlt
        · exact List.pairwise_iff_getElem.mp m.nd k j hk1 hj1 hlt (by rw [e1, e2])
        · exact List.pairwise_iff_getElem.mp m.nd j k hj1 hk1 hlt (by rw [e1, e2])
      rw [upd_ne nb]
      exact e
  · obtain ⟨o, e, po⟩ := m.ext b hb
    have nb : b ≠ a0 := fun z => m.out b hb (by rw [z]; exact ham)
    exact ⟨o, by rw [upd_ne nb]; exact e, po⟩
  · obtain ⟨us, e1⟩ := m.there ham
    rw [e] at e1
    cases e1
    exact ⟨(fun q z => by cases z), (fun q z => by cases z)⟩
theorem EV.app {k : Nat} (ho : EV X o ρ μ (.ptr k) μ1) (he : EV X e ρ μ1 (.dat d) μ2) (hk : μ2[k]? = some ds) (hl : ds.length ≤ 1000) (hbase : attributeBase o "append" X.env (eval o X.env) = eval o X.env := by rfl)
    (hfew : ((backTo cpos (starEach [e] X.env)).all (fun x => !x.1) && (backToKw cpos (keywordEach [] X.env)).all (fun x => x.1.isSome) && decide ([e].length + ([] : List Keyword).length + (if ([] : List Keyword).isEmpty then 0 else 1) < 30)) = true := by rfl)
    (hline : (apos.endLine == cpos.line) = true := by rfl) (hs : starEach [e] X.env = (false, eval e X.env) :: starEach [] X.env := by rfl) (hp : (backTo cpos (starEach [] X.env)).any (·.1) = false := by rfl) : EV X (.Call (.Attribute o "append" apos) [e] [] cpos) ρ μ Nn (μ2.set k (ds ++ [d])) := by
  intro w σ H m s Q q
  refine ⟨_, pe_bm PySem.F.plainAttrs_list PySem.F.slot_list_append PySem.F.type_list_append mt_append (p_ex (e := o)) (pa_cons (p_ex (e := e)) pa_nil hs) hbase hfew hline hs hp, ?_⟩
  refine ho w σ H m s _ fun v H1 m1 f1 h1 => ?_
  obtain ⟨a0, ha0, rfl⟩ := h1
  have hk1 : k < μ1.length := by
    rw [← m1.len]
    exact (List.getElem?_eq_some_iff.mp ha0).1
  obtain ⟨us, e1, _⟩ := m1.cell k a0 μ1[k] ha0 (by simp [hk1])
  refine ⟨.inl ⟨rfl, us, SqL.of e1⟩, ?_⟩
  refine he w σ H1 m1 (s.fr f1) _ fun u H2 m2 f2 h2 => ?_
  obtain ⟨vs, e2, hd⟩ := m2.cell k a0 ds ha0 hk
  obtain ⟨mm, ff⟩ := m2.put (ds := ds ++ [d]) (vs := vs ++ [u]) ha0 (dqAll_append hd (.cons h2 .nil))
  exact ⟨a0, vs, u, rfl, rfl, e2, by rw [dqAll_len hd]; exact small1000 hl, q _ _ mm ((f1.trans f2).trans ff) Dq.non⟩
/-- xs.pop(i) -/
theorem EV.pop {k : Nat} {jn : Nat} (ho : EV X o ρ μ (.ptr k) μ1) (he : EV X e ρ μ1 (Ii (jn : Int)) μ2) (hk : μ2[k]? = some ds) (hj : ds[jn]? = some d) (hl : ds.length ≤ 1000) (hsi : seqIndex? (jn : Int) ds.length = some jn) (hbase : attributeBase o "pop" X.env (eval o X.env) = eval o X.env := by rfl)
    (hfew : ((backTo cpos (starEach [e] X.env)).all (fun x => !x.1) && (backToKw cpos (keywordEach [] X.env)).all (fun x => x.1.isSome) && decide ([e].length + ([] : List Keyword).length + (if ([] : List Keyword).isEmpty then 0 else 1) < 30)) = true := by rfl)
    (hline : (apos.endLine == cpos.line) = true := by rfl) (hs : starEach [e] X.env = (false, eval e X.env) :: starEach [] X.env := by rfl) (hp : (backTo cpos (starEach [] X.env)).any (·.1) = false := by rfl) : EV X (.Call (.Attribute o "pop" apos) [e] [] cpos) ρ μ (.dat d) (μ2.set k (ds.eraseIdx jn)) := by
  intro w σ H m s Q q
  refine ⟨_, pe_bm PySem.F.plainAttrs_list PySem.F.slot_list_pop PySem.F.type_list_pop mt_popAt (p_ex (e := o)) (pa_cons (p_ex (e := e)) pa_nil hs) hbase hfew hline hs hp, ?_⟩
  refine ho w σ H m s _ fun v H1 m1 f1 h1 => ?_
  obtain ⟨a0, ha0, rfl⟩ := h1
  have hk1 : k < μ1.length := by
    rw [← m1.len]
    exact (List.getElem?_eq_some_iff.mp ha0).1
  obtain ⟨us, e1, _⟩ := m1.cell k a0 μ1[k] ha0 (by simp [hk1])
  refine ⟨.inl ⟨rfl, us, SqL.of e1⟩, ?_⟩
  refine he w σ H1 m1 (s.fr f1) _ fun u H2 m2 f2 h2 => ?_
  cases h2
  obtain ⟨vs, e2, hd⟩ := m2.cell k a0 ds ha0 hk
  obtain ⟨y, hy, dy⟩ := dqAll_get hd hj
  have he' : DqAll (dl H2 w.all) (vs.eraseIdx jn) (ds.eraseIdx jn) := by
    rw [List.eraseIdx_eq_take_drop_succ, List.eraseIdx_eq_take_drop_succ]
    exact dqAll_append (dqAll_take _ hd) (dqAll_drop _ hd)
  obtain ⟨mm, ff⟩ := m2.put (ds := ds.eraseIdx jn) (vs := vs.eraseIdx jn) ha0 he'
  have hjl := (List.getElem?_eq_some_iff.mp hj).1
  exact ⟨a0, vs, (jn : Int), jn, y, rfl, rfl, e2, by omega, by omega, by rw [dqAll_len hd]; exact hsi, hy, q _ _ mm ((f1.trans f2).trans ff) (dq_mono ff.all _ _ dy)⟩
/-- [.., *xs, ..] -/
theorem AV.star {sp : Pos} (h : EV X e ρ μ (Tp ds) μ1) (hr : AV X es ρ μ1 rs μ2) (hs : starEach (.Starred e sp :: es) X.env = (true, eval e X.env) :: starEach es X.env := by rfl) : AV X (.Starred e sp :: es) ρ μ (dats ds ++ rs) μ2 := by
  intro w σ H m s Q q
  refine ⟨_, StX.pa_star (p_ex (e := e)) (p_ax (e := es)) hs, ?_⟩
  refine h w σ H m s _ fun v H1 m1 f1 h1 => ?_
  cases h1 with
  | tup ha hd =>
    rename_i a0 xs
    refine ⟨a0, xs, rfl, .inl (SqT.of (dl_some ha).2), ?_⟩
    refine hr w σ H1 m1 (s.fr f1) _ fun vs H2 m2 f2 h2 => ?_
    have hv : ∀ (xs : List V) (ds : List PyData), DqAll (dl H2 w.all) xs ds → Vas X.K H2 w (xs ++ vs) (dats ds ++ rs) := by
      intro xs
      induction xs with
      | nil => intro ds h; cases h; exact h2
      | cons x xs ih =>
        intro ds h
        cases h with
        | cons h1 h3 => exact .cons (r := .dat _) h1 (ih _ h3)
    exact q _ H2 m2 (f1.trans f2) (hv xs ds (dqAll_mono f2.all _ _ hd))
end
end J
/-! J11: objects that do not change: fields, properties, methods, repr, str, bool. -/
namespace J
open PySem PySem.Spec
open PyProof.Rows L2
section
variable {w : World} {P : Program} {K : PySem.W.Frag} {base : Heap} {mg : Str → Option Value}
/-- a def's promise by data, from its body; the name it is called by and its own -/
theorem fn_mk {x qual : Str} {st : Stmt} {f : Addr} {fd : FuncData} {N ps : List Str} {k : Nat} {C : Con} (F : Fun K x qual st f fd) (Sc : FnScope N ps (defScope st)) (hN : ps.length ≤ N.length) (hlen : ∀ rs μ r μ', C rs μ r μ' → rs.length = ps.length ∧ μ'.length = μ.length)
    (body : ∀ (cdv : Value) (A : Around) (outer : List Env) (s : Shared) (H : Hp) (E : XK), Room k (A.deeper (envOfC qual (defScope st) s.heap.objs.size f cdv)) → ∀ rs μ r μ', C rs μ r μ' →
      ST (cxOf CX0 P w K mg base N qual (defScope st) f cdv A outer s H E).nox W0 μ.length (defBody st) (rs.map some ++ List.replicate (N.length - rs.length) none) μ (PostR r μ')) : FnOk P w K mg base CX0 (k + 1) f fd ps (SpV K ps C) := by
  refine F.ok Sc (fun vs H Q E h => ?_) (fun cdv A outer s H vs Q E hr h => ?_)
  · obtain ⟨w0, μ, rs, r, μ', _, hv, hl, _⟩ := h
    rw [hv.1, hl]
  · obtain ⟨w0, μ, rs, r, μ', m, hv, hl, hC, q⟩ := h
    have hb := body cdv A outer s H E hr rs μ r μ' hC
    refine hb w0 _ H _ (Nat.le_of_eq m.len.symm) m (sl_start hv (by omega)) fun o ho => ?_
    have hw : w0.cut μ.length = w0 := by
      show (⟨w0.α.take μ.length, w0.ξ⟩ : Wd) = w0
      rw [← m.len, List.take_length]
    cases o with
    | ret r2 μ2 =>
      obtain ⟨rfl, rfl⟩ := ho
      intro v H' m' f hv'
      rw [hw] at m' hv'
      exact q v H' m' f hv'
    | nx ρ2 μ2 => exact False.elim ho
    | brk ρ2 μ2 => exact False.elim ho
    | ct ρ2 μ2 => exact False.elim ho
    | rse ρ2 μ2 C fs => exact False.elim ho
end
/-- a method: where it stands and what it promises -/
structure Mth (P : Program) (w : World) (K : PySem.W.Frag) (mg : Str → Option Value) (base : Heap) (C : Addr) (m : Str) (k : Nat) (ps : List Str) (c : Con) : Prop where
  ex : ∃ f fd, FnOk P w K mg base CX0 k f fd ps (SpV K ps c) ∧ Meth K C m f ∧ Binds K fd ps []
structure Prp (P : Program) (w : World) (K : PySem.W.Frag) (mg : Str → Option Value) (base : Heap) (C : Addr) (m : Str) (k : Nat) (c : Con) : Prop where
  ex : ∃ p f fd, FnOk P w K mg base CX0 k f fd ["self"] (SpV K ["self"] c) ∧ PropOf K C m p f ∧ Binds K fd ["self"] []
section
variable {X : Cx} {ρ : REnv} {μ μ1 μ2 μ3 : Sto} {x y z r : Ent} {a b c e o : Expr} {es : List Expr} {pos p2 p apos cpos : Pos} {rs : List Ent} {ds out ys : List PyData} {d d2 : PyData} {i j : Int} {s t n f m : Str} {C : Addr} {fs : List (Str × PyData)} {k : Nat} {ps : List Str} {cn : Con}
theorem lk_dq {H : Hp} : ∀ {ws : List (Str × V)} {fs : List (Str × PyData)}, ws.map (·.1) = fs.map (·.1) → DqAll H (ws.map (·.2)) (fs.map (·.2)) → fs.lookup f = some d → ∃ v, ws.lookup f = some v ∧ Dq H v d
  | [], fs, h1, h2, h3 => by
    cases fs with
    | nil => simp at h3
    | cons a as => simp at h1
  | (g, v) :: ws, [], h1, h2, h3 => by simp at h1
  | (g, v) :: ws, (g', e) :: fs, h1, h2, h3 => by
    simp at h1
    obtain ⟨rfl, h1⟩ := h1
    cases h2 with
    | cons ha hb =>
      rw [List.lookup_cons] at h3 ⊢
      cases hg : (f == g) with
      | true => rw [hg] at h3; cases h3; exact ⟨v, rfl, ha⟩
      | false => rw [hg] at h3; exact lk_dq h1 hb h3
theorem lk_none : ∀ {ws : List (Str × V)} {fs : List (Str × PyData)}, ws.map (·.1) = fs.map (·.1) → fs.lookup f = none → ws.lookup f = none
  | [], fs, h1, h3 => by simp
  | (g, v) :: ws, [], h1, h3 => by simp at h1
  | (g, v) :: ws, (g', e) :: fs, h1, h3 => by
    simp at h1
    obtain ⟨rfl, h1⟩ := h1
    rw [List.lookup_cons] at h3 ⊢
    cases hg : (f == g) with
    | true => rw [hg] at h3; cases h3
    | false => rw [hg] at h3; exact lk_none h1 h3
theorem EV.fld (ho : EV X o ρ μ (.obj C fs) μ1) (cl : Cls X.K C) (na : NoAttr X.K C f) (hl : fs.lookup f = some d) (hb : attributeBase o f X.env (eval o X.env) = eval o X.env := by rfl) : EV X (.Attribute o f pos) ρ μ (.dat d) μ1 := by
  intro w σ H m s Q q
  refine ⟨_, pe_fld (p_ex (e := o)) hb, ?_⟩
  refine ho w σ H m s _ fun v H1 m1 f1 h1 => ?_
  obtain ⟨x, dx, ws, rfl, hx, hn, hd⟩ := h1
  obtain ⟨u, hu, du⟩ := lk_dq hn hd hl
  exact ⟨x, C, dx, ws, u, rfl, (dl_some hx).2, cl, na, hu, q u H1 m1 f1 du⟩
theorem EV.prop (ho : EV X o ρ μ (.obj C fs) μ1) (cl : Cls X.K C) (hp : Prp X.prog X.w X.K X.mg X.base C f k cn) (hr : Room (k + 1) X.A) (hC : cn [.obj C fs] μ1 r μ2) (hb : attributeBase o f X.env (eval o X.env) = eval o X.env := by rfl) : EV X (.Attribute o f pos) ρ μ r μ2 := by
  intro w σ H m s Q q
  obtain ⟨p0, g, fd, F, po, bi⟩ := hp.ex
  refine ⟨_, pe_prop (E := E0) (p_ex (e := o)) cl po F hr bi .nil pass0 hb, ?_⟩
  refine ho w σ H m s _ fun v H1 m1 f1 h1 => ?_
  have h1' := h1
  obtain ⟨x, dx, ws, rfl, hx, hn, hd⟩ := h1
  exact ⟨x, dx, ws, rfl, (dl_some hx).2, w, μ1, _, r, μ2, m1, .cons h1' .nil, rfl, hC, fun v H' m2 f2 h2 => q v H' m2 (f1.trans f2) h2⟩
theorem EV.meth {pl : Sem Bool} (ho : EV X o ρ μ (.obj C fs) μ1) (cl : Cls X.K C) (hm : Mth X.prog X.w X.K X.mg X.base C m k ps cn) (hr : Room k X.A) (hl : fs.lookup m = none) (ha : AV X (e :: es) ρ μ1 rs μ2) (hC : cn (.obj C fs :: rs) μ2 r μ3) (hps : rs.length + 1 = ps.length := by rfl)
    (hst : starEach (e :: es) X.env = (false, eval e X.env) :: starEach es X.env := by rfl) (hpl : (backTo pos (starEach es X.env)).any (·.1) = false := by rfl)
    (ht : eval (.Call (.Attribute o m apos) (e :: es) [] pos) X.env = (do
      let ov ← eval o X.env
      standAt apos.atName
      let (f, first) ← holding [ov] (getMethod ov m pl)
      callWith pos f first (backTo pos (starEach (e :: es) X.env)) (backToKw pos (keywordEach [] X.env))) := by rfl) : EV X (.Call (.Attribute o m apos) (e :: es) [] pos) ρ μ r μ3 := by
  intro w σ H m0 s Q q
  obtain ⟨g, fd, F, me, bi⟩ := hm.ex
  refine ⟨_, pe_meth (E := E0) (pl := pl) (p_ex (e := o)) cl me F hr bi .nil pass0 (p_ax (e := e :: es)) hst hpl ht, ?_⟩
  refine ho w σ H m0 s _ fun v H1 m1 f1 h1 => ?_
  have h1' := h1
  obtain ⟨x, dx, ws, rfl, hx, hn, hd⟩ := h1
  refine ⟨x, dx, ws, rfl, (dl_some hx).2, lk_none hn hl, ?_⟩
  refine ha w σ H1 m1 (s.fr f1) _ fun vs H2 m2 f2 h2 => ?_
  exact ⟨w, μ2, .obj C fs :: rs, r, μ3, m2, by rw [List.append_nil]; exact (Vas.cons (r := .obj C fs) (h1'.fr f2) h2), (show (Ent.obj C fs :: rs).length = ps.length from hps), hC, fun v H' m3 f3 h3 => q v H' m3 ((f1.trans f2).trans f3) h3⟩
/-! repr, str, bool of such an object -/
structure Own (P : Program) (w : World) (K : PySem.W.Frag) (mg : Str → Option Value) (base : Heap) (C : Addr) (m : Str) (k : Nat) (cn : Con) : Prop where
  ex : ∃ f fd, FnOk P w K mg base CX0 k f fd ["self"] (SpV K ["self"] cn) ∧ PySem.W.findIn K (.ref C) m = some (some (.ref f)) ∧ PySem.W.isFn K (.ref f) = true ∧ Binds K fd ["self"] []
theorem ins_at {pins : List (Addr × Obj)} {σ : L2.St} {H : Hp} {s : Shared} {x dx : Addr} {ws : List (Str × V)} (I : Inv X pins σ H s) (h : H x = some (.ins C dx ws)) : ∃ od, PySem.W.InstAt s.heap x (PySem.W.instObj C dx) C (some od) := by
  obtain ⟨mA, O, _, _, _, _⟩ := ins_get I.hok h
  obtain ⟨od, J, _⟩ := O.look
  exact ⟨od, J⟩
/-- the call of such a def, one level below -/
theorem own_run {A : Around} {pins : List (Addr × Obj)} {σ : L2.St} {H : Hp} {s : Shared} {g x : Addr} {fd : FuncData} {sp : Sp} {Q : VK} {R : Value → Shared → Prop} {E' : Value → Shared → Prop} (F : FnOk X.prog X.w X.K X.mg X.base CX0 k g fd ["self"] sp) (hr : Room k A) (hf : A.frames = some X.stack) (bi : Binds X.K fd ["self"] []) (I : Inv X pins σ H s)
    (h : sp [.ref x] H Q E0) (hR : ∀ u s', EP X pins σ Q u s' → R u s') : wpAny (model X.prog X.w) A (call (.ref g) [.ref x]) R E' s := by
  have e0 := I.env0
  have e1 : Env0 X.prog X.w X.K X.mg X.base A X.stack s H := ⟨hf, e0.mod, e0.bs, e0.bsz, e0.funs, e0.frf, e0.hok, e0.bare⟩
  refine wpAny_call (codeAny_mono (F.run A X.stack s H ⟨[.ref x], []⟩ [.ref x] [.ref x] Q E0 hr e1 (bi s [.ref x] I.kIn rfl) (.cons rfl .nil) h) fun rr s' hq => ?_)
  cases rr with
  | error er => exact False.elim hq
  | ok fl =>
    cases fl with
    | ret u => exact hR u s' (I.after hq)
    | next => exact False.elim hq
    | brk => exact False.elim hq
    | cont => exact False.elim hq
theorem EV.reprO (T : X.mg "repr" = none) (ho : EV X o ρ μ (.obj C fs) μ1) (hm : Own X.prog X.w X.K X.mg X.base C "__repr__" k cn) (hr : Room (k + 1) X.A) (hC : cn [.obj C fs] μ1 (Ss t) μ2) (hg : Gl X "repr" := by rfl) (hs : starEach [o] X.env = (false, eval o X.env) :: starEach [] X.env := by rfl) : EV X (.Call (.Name "repr" p) [o] [] pos) ρ μ (Ss t) μ2 := by
  intro w σ H m s Q q
  obtain ⟨g, fd, F, hfi, hfn, bi⟩ := hm.ex
  have cr : CallR X (.builtin "repr") (fun vs H Q => ∃ x dx ws, vs = [V.ref x] ∧ H x = some (.ins C dx ws) ∧ SpV X.K ["self"] cn [.ref x] H (fun v H' => ∃ z, v = .str z ∧ Q v H') E0) := by
    intro pins s σ H xs us Q I r h
    obtain ⟨x, dx, ws, rfl, hx, hsp⟩ := h
    obtain ⟨u, rfl, ru⟩ := vals1 r
    obtain rfl : u = Value.ref x := ru
    obtain ⟨od, J⟩ := ins_at I hx
    obtain ⟨mm, Fr0⟩ := I.fr
    refine PySem.W.repr_K (by have := hr.un; show X.A.units + 1 < cLine; omega) Fr0 I.mod.kin J hfi hfn (own_run F hr.in1 I.ok.frames bi I hsp fun u s' hq => ?_)
    obtain ⟨v, H', I', rv, z, rfl, hq⟩ := hq
    obtain ⟨tk, rfl⟩ := rv
    exact ⟨.str z, H', I', ⟨tk, rfl⟩, hq⟩
  refine ⟨_, pe_callB cr hg T (by decide +kernel) (pa_cons (p_ex (e := o)) pa_nil hs) (by decide) (by decide) hs (by rfl), ?_⟩
  refine ho w σ H m s _ fun v H1 m1 f1 h1 => ?_
  have h1' := h1
  obtain ⟨x, dx, ws, rfl, hx, hn, hd⟩ := h1
  refine ⟨x, dx, ws, rfl, (dl_some hx).2, w, μ1, _, Ss t, μ2, m1, .cons h1' .nil, rfl, hC, fun v H' m2 f2 h2 => ?_⟩
  have h2' := h2
  cases h2
  exact ⟨t, rfl, q _ H' m2 (f1.trans f2) h2'⟩
theorem EV.strO (T : X.mg "str" = none) (ho : EV X o ρ μ (.obj C fs) μ1) (hm : Own X.prog X.w X.K X.mg X.base C "__str__" k cn) (hr : Room (k + 2) X.A) (hC : cn [.obj C fs] μ1 (Ss t) μ2) (hg : Gl X "str" := by rfl) (hs : starEach [o] X.env = (false, eval o X.env) :: starEach [] X.env := by rfl) : EV X (.Call (.Name "str" p) [o] [] pos) ρ μ (Ss t) μ2 := by
  intro w σ H m s Q q
  obtain ⟨g, fd, F, hfi, hfn, bi⟩ := hm.ex
  have cr : CallR X (.type "str") (fun vs H Q => ∃ x dx ws, vs = [V.ref x] ∧ H x = some (.ins C dx ws) ∧ SpV X.K ["self"] cn [.ref x] H (fun v H' => ∃ z, v = .str z ∧ Q v H') E0) := by
    intro pins s σ H xs us Q I r h
    obtain ⟨x, dx, ws, rfl, hx, hsp⟩ := h
    obtain ⟨u, rfl, ru⟩ := vals1 r
    obtain rfl : u = Value.ref x := ru
    obtain ⟨od, J⟩ := ins_at I hx
    refine PySem.W.kso_call (by have := hr.un; show X.A.units + 1 + 1 < cLine; omega) I.kIn J hfi hfn (own_run F (Room.in1 (Room.in1 hr)) I.ok.frames bi I hsp fun u s' hq => ?_)
    obtain ⟨v, H', I', rv, z, rfl, hq⟩ := hq
    obtain ⟨tk, rfl⟩ := rv
    exact ⟨.str z, H', I', ⟨tk, rfl⟩, hq⟩
  refine ⟨_, pe_callTy cr hg T (by decide +kernel) (pa_cons (p_ex (e := o)) pa_nil hs) (by decide) (by decide) hs (by rfl), ?_⟩
  refine ho w σ H m s _ fun v H1 m1 f1 h1 => ?_
  have h1' := h1
  obtain ⟨x, dx, ws, rfl, hx, hn, hd⟩ := h1
  refine ⟨x, dx, ws, rfl, (dl_some hx).2, w, μ1, _, Ss t, μ2, m1, .cons h1' .nil, rfl, hC, fun v H' m2 f2 h2 => ?_⟩
  have h2' := h2
  cases h2
  exact ⟨t, rfl, q _ H' m2 (f1.trans f2) h2'⟩

/-! making one: its only field is what is handed in -/
/-- the promise of an __init__ that keeps its argument under a name -/
def spInit (K : PySem.W.Frag) (C : Addr) (f : Str) (G : List PyData → Prop) : Sp := fun vs H Q _ => ∃ x dx v w μ ps, vs = [.ref x, v] ∧ H x = some (.ins C dx []) ∧ x ∈ w.ξ ∧ Mem K H w μ ∧ Val K H w v (Tp ps) ∧ G ps ∧
  ∀ H1, Mem K H1 w μ → Fr w.α H H1 → Val K H1 w v (Tp ps) → Q .non (upd H1 x (.ins C dx [(f, v)]))
structure Mak (P : Program) (w : World) (K : PySem.W.Frag) (mg : Str → Option Value) (base : Heap) (n : Str) (C : Addr) (f : Str) (k : Nat) (ps : List Str) (G : List PyData → Prop) : Prop where
  ex : ∃ g fd, FnOk P w K mg base CX0 k g fd ps (spInit K C f G) ∧ Mk K C g ∧ mg n = some (.ref C) ∧ Binds K fd ps []
theorem make_end {K : PySem.W.Frag} {H H1 : Hp} {w : Wd} {xx dx : Addr} {v : V} {ps : List PyData} {Q : VK} (m : Mem K H w μ) (hx : H xx = none) (hdx : H dx = none) (hne : dx ≠ xx)
    (q : ∀ u H', Mem K H' w μ → Fr w.α H H' → Val K H' w u (.obj C [(f, .tuple ps)]) → Q u H') (m1 : Mem K H1 (wk' w xx) μ) (f1 : Fr w.α (upd (upd H dx (.own xx)) xx (.ins C dx [])) H1) (h1 : Val K H1 (wk' w xx) v (Tp ps)) : Q (.ref xx) (upd H1 xx (.ins C dx [(f, v)])) := by
  have hxa : xx ∉ w.all := m.freshA hx
  have f2 : Fr w.α H (upd H1 xx (.ins C dx [(f, v)])) := fun b o e nb nt => by
    have b1 : b ≠ xx := ne_of_none e hx
    have b2 : b ≠ dx := ne_of_none e hdx
    rw [upd_ne b1]
    exact f1 b o (by rw [upd_ne b1, upd_ne b2]; exact e) nb nt
  have g : Same (dl H1 (wk' w xx).all) (dl (upd H1 xx (.ins C dx [(f, v)])) w.all) := same_outs.trans (dl_sub fun b hb => all_wk'.mpr (.inr hb))
  exact q _ _ m1.outs.unkeep f2 ⟨xx, dx, [(f, v)], rfl, dl_of hxa upd_same, rfl, .cons (dq_mono g _ _ h1) .nil⟩
/-- the new instance is kept out while its __init__ runs -/
theorem make_mem {K : PySem.W.Frag} {H : Hp} {w : Wd} {xx dx : Addr} {o o' : HO} (m : Mem K H w μ) (hx : H xx = none) (hdx : H dx = none) (hne : dx ≠ xx) (po : Pl o := by exact ⟨(fun q z => by cases z), (fun q z => by cases z)⟩) : Mem K (upd (upd H dx o') xx o) (wk' w xx) μ :=
  (m.same (Same.new hdx)).keep (by rw [upd_ne (Ne.symm hne)]; exact hx) po
theorem make_val {K : PySem.W.Frag} {H : Hp} {w : Wd} {xx dx : Addr} {o o' : HO} {v : V} {ps : List PyData} (h : Val K H w v (Tp ps)) (hx : H xx = none) (hdx : H dx = none) : Val K (upd (upd H dx o') xx o) (wk' w xx) v (Tp ps) := by
  have hS : Same H (upd (upd H dx o') xx o) := fun b u e => by
    rw [upd_ne (ne_of_none e hx), upd_ne (ne_of_none e hdx)]
    exact e
  exact dq_mono (keep_out (K := K) hx (Fr.of_same hS) ⟨_, upd_same⟩) _ _ h
theorem EV.make {G : List PyData → Prop} {gs : List PyData} (M : Mak X.prog X.w X.K X.mg X.base n C f k ps G) (hr : Room (k + 1) X.A) (ha : EV X e ρ μ (Tp gs) μ1) (hG : G gs) (hg : Gl X n := by rfl) (hs : starEach [e] X.env = (false, eval e X.env) :: starEach [] X.env := by rfl) (hdb : (n == ("__debug__" : Str)) = false := by decide)
    (hpl : (backTo pos (starEach [] X.env)).any (·.1) = false := by rfl) : EV X (.Call (.Name n p) [e] [] pos) ρ μ (.obj C [(f, .tuple gs)]) μ1 := by
  intro w σ H m s Q q
  obtain ⟨g, fd, F, mk, hm, bi⟩ := M.ex
  refine ⟨_, pe_make (E := E0) mk F hr hg hm bi .nil pass0 (pa_cons (p_ex (e := e)) pa_nil hs) hdb hs hpl, ?_⟩
  refine ha w σ H m s _ fun v H1 m1 f1 h1 => ?_
  intro x dx hx hdx hne
  refine ⟨x, dx, v, wk' w x, μ1, gs, rfl, upd_same, List.mem_cons_self, make_mem m1 hx hdx hne, make_val h1 hx hdx, hG, fun H2 m2 f2 h2 => ⟨rfl, ?_⟩⟩
  exact make_end (Q := Q) (v := v) m1 hx hdx hne (fun u H' mm ff hh => q u H' mm (f1.trans ff) hh) m2 f2 h2
end
end J
/-! J12: a tuple known to the object, for its methods: tuple([..]) and t.index(x). -/
namespace J
open PySem PySem.Spec
open PyProof.Rows L2
theorem use_evf {X : Cx} {e : Expr} {ρ : REnv} {μ μ' : Sto} {xs : List PyData} {w : Wd} {σ : L2.St} {H : Hp} {Q : VK} (h : EVF X e ρ μ xs μ') (m : Mem X.K H w μ) (s : Sl X.K H w σ ρ)
    (q : ∀ p H' vs, Mem X.K H' (wk' w p) μ' → Fr w.α H H' → Nw H p → H' p = some (.lst vs) → DqAll (dl H' (wk' w p).all) vs xs → Q (.ref p) H') : EX X e σ H Q := h w σ H m s Q q
theorem use_ev {X : Cx} {e : Expr} {ρ : REnv} {μ μ' : Sto} {r : Ent} {w : Wd} {σ : L2.St} {H : Hp} {Q : VK} (h : EV X e ρ μ r μ') (m : Mem X.K H w μ) (s : Sl X.K H w σ ρ) (q : ∀ v H', Mem X.K H' w μ' → Fr w.α H H' → Val X.K H' w v r → Q v H') : EX X e σ H Q := h w σ H m s Q q
section
variable {X : Cx}
theorem call_tupleF : CallR X (.type "tuple") (fun xs H Q => ∃ p ys, xs = [.ref p] ∧ SqL X.K H p ys ∧ ∀ l o, H l = none → o.cls = .type "tuple" → o.dict = none → Q (.ref l) (upd H l (.frz o (.tup ys)))) := by
  intro pins s σ H xs us Q I r h
  obtain ⟨p, ys, rfl, hq, q⟩ := h
  obtain ⟨u, rfl, rx⟩ := vals1 r
  obtain rfl : u = Value.ref p := rx
  obtain ⟨its, r2, pl, hz⟩ := I.list hq
  have hl := r2.length
  refine call_tuple_list pl.isList (fun g kp => ?_) (by simp only [List.size_toArray] <;> omega)
  have I1 : Inv X pins σ H { s with heap := g } := I.kept (t' := s.toks) kp
  have ho : (g.push ({ cls := .type "tuple", data := .seq its.toArray } : Obj)).get? g.objs.size = some { cls := .type "tuple", data := .seq its.toArray } := Heap.get?_push_size _ rfl
  have I2 : Inv X pins σ (upd H g.objs.size (.frz { cls := .type "tuple", data := .seq its.toArray } (.tup ys))) { s with heap := g.push { cls := .type "tuple", data := .seq its.toArray } } :=
    I1.laid (t' := s.toks) (fun b o e => Heap.get?_push_of_some _ e) (Nat.le_refl _) ⟨ho, hz, its, r2, IsTup.new _ _⟩
  exact ⟨.ref g.objs.size, _, I2, rfl, q _ _ (I1.hok.fresh (Nat.le_refl _)) rfl rfl⟩
def tTix (r : V → List V → Hp → VK → Prop) (to te : TE) : TE := fun σ H Q => to σ H fun x H1 => (∃ p ob xs, x = .ref p ∧ H1 p = some (.frz ob (.tup xs)) ∧ ob.cls = .type "tuple" ∧ ob.dict = none) ∧ te σ H1 fun y H2 => r x [y] H2 Q
theorem pe_tix {id : String} {name : Str} {o e : Expr} {to te : TE} {r : V → List V → Hp → VK → Prop} {apos cpos : Pos} (slot : Slot "tuple" name id) (hty : typeOf (.builtin id) = pure (.type "method_descriptor")) (hm : MtR X id r) (ho : PE X o to) (he : PE X e te)
    (hbase : attributeBase o name X.env (eval o X.env) = eval o X.env := by rfl)
    (hfew : ((backTo cpos (starEach [e] X.env)).all (fun x => !x.1) && (backToKw cpos (keywordEach [] X.env)).all (fun x => x.1.isSome) && decide ([e].length + ([] : List Keyword).length + (if ([] : List Keyword).isEmpty then 0 else 1) < 30)) = true := by rfl)
    (hline : (apos.endLine == cpos.line) = true := by rfl) (hs : starEach [e] X.env = (false, eval e X.env) :: starEach [] X.env := by rfl) (hp : (backTo cpos (starEach [] X.env)).any (·.1) = false := by rfl) : PE X (.Call (.Attribute o name apos) [e] [] cpos) (tTix r to te) := by
  refine ⟨fun pins s σ H Q I h => ?_⟩
  refine wpAny_Call_method_late hbase hfew hline rfl (thn (ho.run pins s σ H _ I h) fun v s1 hh => ?_)
  obtain ⟨x, H1, I1, r1, ⟨p, ob, xs, rfl, hf, hc, hd⟩, q1⟩ := hh
  obtain rfl : v = Value.ref p := r1
  obtain ⟨g1, _⟩ : s1.heap.get? p = some ob ∧ _ := I1.hok p _ hf
  refine ⟨"tuple", id, PySem.F.plainAttrs_tuple, slot, hty, ⟨ob, g1, hc⟩, fun a ea => by cases ea; exact ⟨ob, g1, hd⟩, ?_⟩
  have hA := (pa_cons he pa_nil hs).run cpos pins s1 σ H1 (fun vs H2 => match vs with | [y] => r (.ref p) [y] H2 Q | _ => False) I1 q1
  rw [hs] at hA ⊢
  refine Calls.callWith_builtin (by show (false || (backTo cpos (starEach [] X.env)).any (·.1)) = false; rw [hp] <;> rfl) (Calls.evalArgs_plain ?_)
  refine thn hA fun us s2 hh => ?_
  obtain ⟨vs, H2, I2, r2, q2⟩ := hh
  match vs, r2, q2 with
  | [y], r2, q2 => exact hm pins s2 σ H2 (.ref p) [y] (.ref p) us Q I2 rfl r2 q2
end
end J
/-! J13: lists stored by place, targets that change a list, the script's items. -/
namespace J
open PySem PySem.Spec
open PyProof.Rows L2
section
variable {X : Cx} {W : WX} {ρ ρ1 ρ2 : REnv} {μ μ1 μ2 μ3 : Sto} {a b c e o : Expr} {es tgs : List Expr} {pos p2 p apos cpos : Pos} {ds out : List PyData} {d : PyData} {i j : Int} {s t n : Str} {tg : Expr} {P : Out → Prop} {nn : Nat} {rest : List Stmt}
theorem scr_at {ns : List Int} {i : Nat} {v : Int} (h : ns[i]? = some v) : atI (ns.map V.int) (i : Int) = some (V.int v) := at_nat (by rw [List.getElem?_map, h]; rfl)
theorem ixScr {ns : List Int} {i : Nat} {v : Int} (ha : EV X a ρ μ (.scr ns) μ1) (hb : EV X b ρ μ1 (Ii (i : Int)) μ2) (h : ns[i]? = some v) (hs : PlainIx b := by exact fun _ _ => rfl) : EV X (.Subscript a b pos) ρ μ (Ii v) μ2 := by
  refine EV.ix ix_list ha hb (fun w H x y m h1 h2 Q q => ?_) hs
  obtain ⟨p, rfl, hsq⟩ := h1
  cases h2
  exact ⟨p, _, _, _, rfl, rfl, Same.seq dl_same hsq, scr_at h, q _ _ m .refl (Dq.int _)⟩
/-- a target that may change a list -/
def GW (X : Cx) (tg : Expr) (d : PyData) (ρ : REnv) (μ : Sto) (ρ' : REnv) (μ' : Sto) : Prop :=
  ∀ w σ H v, Mem X.K H w μ → Sl X.K H w σ ρ → Val X.K H w v (.dat d) → ∀ Q : L2.St → Hp → Prop, (∀ σ' H', Mem X.K H' w μ' → Fr w.α H H' → Sl X.K H' w σ' ρ' → Q σ' H') → GX X tg v σ H Q
def GsW (X : Cx) (tg : List Expr) (ds : List PyData) (ρ : REnv) (μ : Sto) (ρ' : REnv) (μ' : Sto) : Prop :=
  ∀ w σ H vs, Mem X.K H w μ → Sl X.K H w σ ρ → DqAll (dl H w.all) vs ds → ∀ Q : L2.St → Hp → Prop, (∀ σ' H', Mem X.K H' w μ' → Fr w.α H H' → Sl X.K H' w σ' ρ' → Q σ' H') → GsX X tg vs σ H Q
theorem GW.name {i : Nat} (hN : X.N.Nodup) (hi : X.N[i]? = some n) (hx : Loc X.env.scope n) (hf : X.fn n = true ∨ X.env.scope.names.lookup n = some .local := by first | exact .inl rfl | exact .inr rfl | assumption) : GW X (.Name n pos) d ρ μ (ρ.set i (some (.dat d))) μ := by
  intro w σ H v m s h Q q
  exact ⟨_, pg_name hN hi hx hf, q _ _ m .refl (s.set h)⟩
theorem GW.sub {k j : Nat} (ho : EV X o ρ μ (.ptr k) μ) (hi : EV X e ρ μ (Ii (j : Int)) μ) (hk : μ[k]? = some ds) (hj : j < ds.length)
    (hsub : ∀ v, assign (.Subscript o e pos) X.env v = (do
      let ov ← holding [v] (eval o X.env)
      let iv ← holding [v, ov] (eval e X.env)
      standAt pos
      holding [v, ov, iv] (setItem ov iv v)
      release [v, ov, iv] []) := by intro _; rfl) : GW X (.Subscript o e pos) d ρ μ ρ (μ.set k (ds.set j d)) := by
  intro w σ H v m s h Q q
  refine ⟨_, pg_sub (p_ex (e := o)) (p_ex (e := e)) set_list hsub, ?_⟩
  refine ho w σ H m s _ fun u H1 m1 f1 h1 => ?_
  obtain ⟨a0, ha0, rfl⟩ := h1
  refine hi w σ H1 m1 (s.fr f1) _ fun u H2 m2 f2 h2 => ?_
  cases h2
  obtain ⟨vs, e2, hd⟩ := m2.cell k a0 ds ha0 hk
  have hl := dqAll_len hd
  have hv2 : Dq (dl H2 w.all) v d := (h.fr f1).fr f2
  have hset : ∀ (vs : List V) (ds : List PyData) (j : Nat), DqAll (dl H2 w.all) vs ds → DqAll (dl H2 w.all) (vs.set j v) (ds.set j d) := by
    intro vs
    induction vs with
    | nil => intro ds j h; cases h; exact .nil
    | cons x xs ih =>
      intro ds j h
      cases h with
      | cons h1 h3 =>
        cases j with
        | zero => exact .cons hv2 h3
        | succ j => exact .cons h1 (ih _ j h3)
  obtain ⟨mm, ff⟩ := m2.put (ds := ds.set j d) (vs := vs.set j v) ha0 (hset vs ds j hd)
  refine ⟨a0, vs, (j : Int), j, rfl, rfl, e2, ?_, q σ _ mm ((f1.trans f2).trans ff) (((s.fr f1).fr f2).fr ff)⟩
  unfold ixN
  rw [if_pos (by omega), if_pos (by omega)]
  simp
theorem GsW.nil : GsW X [] [] ρ μ ρ μ := by
  intro w σ H vs m s h Q q
  cases h
  exact ⟨_, pgs_nil, rfl, q σ H m .refl s⟩
theorem GsW.cons (h1 : GW X tg d ρ μ ρ1 μ1) (h2 : GsW X tgs ds ρ1 μ1 ρ2 μ2) (ha : (assignEach (tg :: tgs) X.env).map (·.2) = assign tg X.env :: (assignEach tgs X.env).map (·.2) := by rfl) : GsW X (tg :: tgs) (d :: ds) ρ μ ρ2 μ2 := by
  intro w σ H vs m s h Q q
  cases h with
  | cons a b =>
    refine ⟨_, pgs_cons (p_gx (e := tg)) (p_gsx (e := tgs)) ha, ?_⟩
    refine ⟨_, _, rfl, h1 w σ H _ m s a _ fun σ1 H1 m1 f1 s1 => ?_⟩
    exact h2 w σ1 H1 _ m1 s1 (dqAll_mono f1.all _ _ b) Q fun σ2 H2 m2 f2 s2 => q σ2 H2 m2 (f1.trans f2) s2
theorem GW.tup {k : Nat} (h : GsW X tgs ds ρ μ ρ1 μ1) (hc : X.calm = true := by rfl) (hn : (assignEach tgs X.env).length = ds.length := by rfl) (hst : (assignEach tgs X.env).findIdx? (·.1) = none := by rfl) : GW X (.Tuple tgs k pos) (.tuple ds) ρ μ ρ1 μ1 := by
  intro w σ H v m s hv Q q
  cases hv with
  | tup ha hd =>
    refine ⟨_, pg_tup hc (p_gsx (e := tgs)) hn hst, ?_⟩
    exact ⟨_, _, rfl, SqT.of (dl_some ha).2, dqAll_len hd, h w σ H _ m s hd Q q⟩
theorem ST.asgW (h : EV X e ρ μ (.dat d) μ1) (hg : GW X tg d ρ μ1 ρ1 μ2) (hr : ST X W nn rest ρ1 μ2 P) (hs : swapsWithSole [tg] e pos.line X.env = pure false := by rfl) (hw : swappedStores [tg] e X.env = pure none := by rfl)
    (h1 : (assignEach [tg] X.env).map (·.2) = [assign tg X.env] := by rfl) : ST X W nn (.Assign [tg] e pos :: rest) ρ μ P := by
  intro w σ H D hn m s q
  refine ⟨_, pss_cons (ps_asg (p_ex (e := e)) (p_gx (e := tg)) hs hw h1) p_sx, ?_⟩
  refine h w σ H m s _ fun v H1 m1 f1 hv => ?_
  refine hg w σ H1 v m1 (s.fr f1) hv _ fun σ2 H2 m2 f2 s2 => ?_
  exact hr w σ2 H2 D hn m2 s2 fun o ho => (q o ho).step hn (f1.trans f2)
end
end J
/-! J14: promises made where no repr is under way; new lists handed out and in. -/
namespace J
open PySem PySem.Spec
open PyProof.Rows L2
/-- a promise that holds where no repr is under way -/
structure FnG (P : Program) (w : World) (K : PySem.W.Frag) (mg : Str → Option Value) (base : Heap) (k : Nat) (f : Addr) (fd : FuncData) (ps : List Str) (sp : Sp) : Prop where
  many : ∀ xs G R E, sp xs G R E → xs.length = ps.length
  go : ∀ (B : Around) (st : List Env) (t : Shared) (G : Hp) (ar : Args) (ws : List Value) (xs : List V) (R : VK) (E : XK), B.guards = some [] → Room k B → Env0 P w K mg base B st t G → BindsTo t fd ar (ps.zip ws) → Vals xs ws → sp xs G R E → codeAny (model P w) B (.call (.ref f) ar) (CR CX0 st P w G t R E) t
section
variable {w : World} {P : Program} {K : PySem.W.Frag} {base : Heap} {mg : Str → Option Value}
theorem fnG_of {k : Nat} {f : Addr} {nm0 qual : Str} {prm : Arguments} {bd : List Stmt} {scp : Scope} {dV kV doc pm cdv ct oc : Value} {an od : Option Addr} {osl : Array (Option Value)} {N ps : List Str} {sp : Sp}
    (look : K.lookup f = some ⟨oc, od, .func (PySem.W.fnOf nm0 qual prm bd scp dV kV doc pm an cdv ct), osl⟩) (code : PySem.W.codeIn K cdv qual = true) (Sc : FnScope N ps scp) (many : ∀ xs G R E, sp xs G R E → xs.length = ps.length)
    (hb : ∀ (B : Around) (st : List Env) (t : Shared) (G : Hp) (xs : List V) (R : VK) (E : XK), B.guards = some [] → Room k (B.deeper (envOfC qual scp t.heap.objs.size f cdv)) → sp xs G R E → ∃ T, PSs (cxOf CX0 P w K mg base N qual scp f cdv B st t G E) bd T ∧ T { nx := fun _ G' => R .non G', rt := R } (L2.start N xs) G) :
    FnG P w K mg base (k + 1) f (PySem.W.fnOf nm0 qual prm bd scp dV kV doc pm an cdv ct) ps sp := by
  refine ⟨many, fun B st t G ar ws xs R E hgd room e0 bind vals hsp => ?_⟩
  have hlen := many _ _ _ _ hsp
  have inK : K.In t.heap := e0.mod.kin.keeps fun a o z => (e0.bs a o z).1
  have noL : t.heap.NoLimit := e0.mod.nolimit.keeps fun a o z => (e0.bs a o z).1
  refine codeAny_call_function room.depth (inK _ _ look) rfl Sc.co Sc.gen rfl (PySem.W.codeRec_of inK code) (bind _ _ _ _ ?_)
  refine wpAny_newFunctionEnv_cells Sc.kind (fun ⟨n, v⟩ hy => ?_) fun env he t1 x => ?_
  · rcases Sc.par n (List.of_mem_zip hy).1 with z | z
    · exact Or.inl z
    · exact Or.inr ⟨z, PySem.W.cellsFrom_some _ _ _ (Or.inl z)⟩
  subst he
  refine ⟨noL.keeps x.toInCall.keep, codeAny_func ?_⟩
  obtain ⟨T, hT, hr⟩ := hb B st t G xs R E hgd (room.deeper _) hsp
  have I : Inv (cxOf CX0 P w K mg base N qual scp f cdv B st t G E) [] (L2.start N xs) G t1 := inv_start Sc room.hd e0 hlen vals x
  have done : ∀ {σ' : L2.St} {G' : Hp} {v : V} {u : Value} {t' : Shared}, Inv (cxOf CX0 P w K mg base N qual scp f cdv B st t G E) [] σ' G' t' → RelV v u → R v G' → CE st P w G t R u t' := fun {σ' G' v u t'} J rv hq => ⟨v, G', J.os, J.bare, J.base, J.hok, rv, hq⟩
  refine wpAny_mono (hT.run [] t1 (L2.start N xs) G _ I hr) (fun fl t' hs => ?_) fun e t' hs => hs
  match fl, hs with
  | .ret u, hs =>
    obtain ⟨v, σ', G', J, rv, hq⟩ := hs
    exact done J rv hq
  | .next, hs =>
    obtain ⟨σ', G', J, hq⟩ := hs
    exact done (v := V.non) (u := Value.none) J rfl hq
  | .brk, hs =>
    obtain ⟨_, _, _, hq⟩ := hs
    exact hq.elim
  | .cont, hs =>
    obtain ⟨_, _, _, hq⟩ := hs
    exact hq.elim
theorem funG {x qual : Str} {st : Stmt} {f : Addr} {fd : FuncData} {N ps : List Str} {k : Nat} {sp : Sp} (F : Fun K x qual st f fd) (Sc : FnScope N ps (defScope st)) (many : ∀ xs G R E, sp xs G R E → xs.length = ps.length)
    (hb : ∀ (cdv : Value) (B : Around) (o : List Env) (t : Shared) (G : Hp) (xs : List V) (R : VK) (E : XK), B.guards = some [] → Room k (B.deeper (envOfC qual (defScope st) t.heap.objs.size f cdv)) → sp xs G R E →
      ∃ T, PSs (cxOf CX0 P w K mg base N qual (defScope st) f cdv B o t G E).nox (defBody st) T ∧ T { nx := fun _ G' => R .non G', rt := R } (L2.start N xs) G) : FnG P w K mg base (k + 1) f fd ps sp := by
  obtain ⟨oc, od, kV, doc, pm, an, cdv, ct, osl, rfl, lk, hcd⟩ := F.ex
  refine fnG_of lk hcd Sc many fun B o t G xs R E hgd room hsp => ?_
  obtain ⟨T, hT, hq⟩ := hb cdv B o t G xs R E hgd room hsp
  exact ⟨T, hT.nox, hq⟩
/-- by data -/
structure CalG (P : Program) (w : World) (K : PySem.W.Frag) (mg : Str → Option Value) (base : Heap) (n : Str) (k : Nat) (ps : List Str) (C : Con) : Prop where
  ex : ∃ f fd, FnG P w K mg base k f fd ps (SpV K ps C) ∧ mg n = some (.ref f) ∧ PySem.W.keepIn K (.ref f) = true ∧ Binds K fd ps []
theorem Df.calG {x : Str} {st : Stmt} {N ps : List Str} {k : Nat} {C : Con} (D : Df K mg x st) (Sc : FnScope N ps (defScope st))
    (hb : ∀ (kV doc pm : Value) (an : Option Addr) (cdv ct : Value) (us : List Value), us.length = ps.length → bindArgs (PySem.W.fnOf x x (defArgs st) (defBody st) (defScope st) .none kV doc pm an cdv ct) ⟨us, []⟩ = pure (ps.zip us))
    (hN : ps.length ≤ N.length) (hlen : ∀ rs μ r μ', C rs μ r μ' → μ'.length = μ.length)
    (body : ∀ (f : Addr) (cdv : Value) (A : Around) (outer : List Env) (s : Shared) (H : Hp) (E : XK), A.guards = some [] → Room k (A.deeper (envOfC x (defScope st) s.heap.objs.size f cdv)) → ∀ rs μ r μ', C rs μ r μ' →
      ST (cxOf CX0 P w K mg base N x (defScope st) f cdv A outer s H E).nox W0 μ.length (defBody st) (rs.map some ++ List.replicate (N.length - rs.length) none) μ (PostR r μ')) : CalG P w K mg base x (k + 1) ps C := by
  obtain ⟨f, fd, F, hm⟩ := D.ex
  refine ⟨f, fd, funG F Sc (fun xs G R E h => ?_) (fun cdv B o t G xs R E hgd room h => ?_), hm, F.kp, F.binds hb⟩
  · obtain ⟨w0, μ, rs, r, μ', _, hv, hl, _⟩ := h
    exact hv.1.trans hl
  · obtain ⟨w0, μ, rs, r, μ', m, hv, hl, hC, q⟩ := h
    refine body f cdv B o t G E hgd room rs μ r μ' hC w0 _ G _ (Nat.le_of_eq m.len.symm) m (sl_start hv (by omega)) fun oo ho => ?_
    have hw : w0.cut μ.length = w0 := by
      show (⟨w0.α.take μ.length, w0.ξ⟩ : Wd) = w0
      rw [← m.len, List.take_length]
    match oo, ho with
    | .ret r2 μ2, ho =>
      obtain ⟨rfl, rfl⟩ := ho
      intro v G' m' f' hv'
      rw [hw] at m' hv'
      exact q v G' m' f' hv'
/-- a new list that nobody else knows -/
def SpF (K : PySem.W.Frag) (ps : List Str) (C : List Ent → Sto → List PyData → Prop) : Sp := fun vs H Q _ => ∃ w μ rs xs, Mem K H w μ ∧ Vas K H w vs rs ∧ rs.length = ps.length ∧ C rs μ xs ∧
  ∀ p H' us, Mem K H' (wk' w p) μ → Fr w.α H H' → Nw H p → H' p = some (.lst us) → DqAll (dl H' (wk' w p).all) us xs → Q (.ref p) H'
structure CalF (P : Program) (w : World) (K : PySem.W.Frag) (mg : Str → Option Value) (base : Heap) (n : Str) (k : Nat) (ps : List Str) (C : List Ent → Sto → List PyData → Prop) : Prop where
  ex : ∃ f fd, FnOk P w K mg base CX0 k f fd ps (SpF K ps C) ∧ mg n = some (.ref f) ∧ PySem.W.keepIn K (.ref f) = true ∧ Binds K fd ps []
end
theorem fresh_of {w : Wd} {H H' : Hp} {K : PySem.W.Frag} {μ : Sto} {p : Addr} (m1 : Mem K H' w μ) (f : Fr w.α H H') (hp : Nw H' p) : Nw H p := Nw.back f hp fun z => m1.freshN hp (List.mem_append_left _ z)
/-- a list that is kept out becomes one that is followed -/
theorem Mem.adopt {K : PySem.W.Frag} {H : Hp} {w : Wd} {p : Addr} {μ : Sto} {us : List V} {xs : List PyData} (m : Mem K H (wk' w p) μ) (hx : p ∉ w.ξ) (e : H p = some (.lst us)) (hd : DqAll (dl H (wk' w p).all) us xs) :
    Mem K H (w.add [p]) (μ ++ [xs]) := by
  have sub : Same (dl H (wk' w p).all) (dl H (w.add [p]).all) := dl_sub fun b hb => by
    rw [all_wk']
    simp only [Wd.all, List.mem_append, List.mem_cons, List.not_mem_nil, or_false] at hb ⊢
    rcases hb with (h | h) | h
    · exact .inr (.inl h)
    · exact .inl h
    · exact .inr (.inr h)
  have pn : p ∉ w.α := m.out p List.mem_cons_self
  have l1 : w.α.length = μ.length := m.len
  refine ⟨List.nodup_append.mpr ⟨m.nd, by simp, fun a h b h' => by simp at h'; subst h'; exact fun z => pn (z ▸ h)⟩, by simp [l1], fun k a ys h1 h2 => ?_, fun b hb z => ?_, fun b hb => m.ext b (List.mem_cons_of_mem _ hb), m.tab⟩
  · by_cases hk : k < w.α.length
    · obtain ⟨vs, e', hd'⟩ := m.cell k a ys (by rwa [List.getElem?_append_left hk] at h1) (by rwa [List.getElem?_append_left (by omega)] at h2)
      exact ⟨vs, e', dqAll_mono sub _ _ hd'⟩
    · rw [List.getElem?_append_right (by omega)] at h1 h2
      rw [l1] at h1
      cases hj : k - μ.length with
      | zero =>
        rw [hj] at h1 h2
        simp at h1 h2
        subst h1
        subst h2
        exact ⟨us, e, dqAll_mono sub _ _ hd⟩
      | succ j =>
        rw [hj] at h1
        simp at h1
  · rcases List.mem_append.mp z with z | z
    · exact m.out b (List.mem_cons_of_mem _ hb) z
    · have : b = p := by simpa using z
      subst this
      exact hx hb
section
variable {X : Cx} {ρ : REnv} {μ μ1 μ2 : Sto} {e : Expr} {es : List Expr} {pos p : Pos} {rs : List Ent} {xs ys : List PyData} {n : Str} {k : Nat} {ps : List Str}
theorem EVF.call {C : List Ent → Sto → List PyData → Prop} (F : CalF X.prog X.w X.K X.mg X.base n k ps C) (hr : Room k X.A) (ha : AV X (e :: es) ρ μ rs μ1) (hC : C rs μ1 xs) (hl : rs.length = ps.length := by rfl)
    (hg : Gl X n := by rfl) (hdb : (n == ("__debug__" : Str)) = false := by decide) (he : starEach (e :: es) X.env = (false, eval e X.env) :: starEach es X.env := by rfl) (hpl : (backTo pos (starEach es X.env)).any (·.1) = false := by rfl) :
    EVF X (.Call (.Name n p) (e :: es) [] pos) ρ μ xs μ1 := by
  intro w σ H m s Q q
  obtain ⟨f, fd, G, hm, hk, hb⟩ := F.ex
  refine ⟨_, pe_call (E := E0) G hr hg hm hk hb .nil pass0 (p_ax (e := e :: es)) hdb he hpl, ?_⟩
  refine ha w σ H m s _ fun vs H1 m1 f1 h1 => ?_
  exact ⟨w, μ1, rs, xs, m1, by rw [List.append_nil]; exact h1, hl, hC, fun p H' us m2 f2 hp e2 hd => q p H' us m2 (f1.trans f2) (fresh_of m1 f1 hp) e2 hd⟩
/-- the callee runs -/
theorem runG {pins : List (Addr × Obj)} {σ : L2.St} {H : Hp} {s : Shared} {Q : VK} {us : List Value} {vs : List V} {f : Addr} {fd : FuncData} {sp : Sp} (F : FnG X.prog X.w X.K X.mg X.base k f fd ps sp) (hgd : X.A.guards = some []) (hr : Room k X.A) (hb : Binds X.K fd ps []) (I : Inv X pins σ H s) (r : Vals vs us) (h : sp vs H Q E0) : wpAny (model X.prog X.w) X.A (call (.ref f) us) (EP X pins σ Q) X.xe s := by
  have hl : us.length = ps.length := r.length.symm.trans (F.many _ _ _ _ h)
  have hb2 := hb s us I.kIn (by rw [List.append_nil]; exact hl)
  rw [List.append_nil] at hb2
  refine wpAny_call (codeAny_mono (F.go X.A X.stack s H ⟨us, []⟩ us vs Q E0 hgd hr I.env0 hb2 r h) fun rr t hq => ?_)
  match rr, hq with
  | .ok (.ret u), hq => exact I.after hq
/-- f(a new list) -/
theorem EV.callNew {C : Con} {b : Bool} {x1 : Str} (F : CalG X.prog X.w X.K X.mg X.base n k [x1] C) (hgd : X.A.guards = some []) (hr : Room k X.A) (ha : EVF X e ρ μ xs μ1) (hC : C [.ptr μ1.length] (μ1 ++ [xs]) (Bb b) (μ1 ++ [ys]))
    (hg : Gl X n := by rfl) (hdb : (n == ("__debug__" : Str)) = false := by decide) (he : starEach [e] X.env = (false, eval e X.env) :: starEach [] X.env := by rfl) (hpl : (backTo pos (starEach [] X.env)).any (·.1) = false := by rfl) :
    EV X (.Call (.Name n p) [e] [] pos) ρ μ (Bb b) μ1 := by
  intro w σ H m s Q q
  obtain ⟨f, fd, G, hm, hk, hb⟩ := F.ex
  refine ⟨tCall (SpV X.K [x1] C) [] E0 (tCons (EX X e) tNil), ⟨fun pins s0 σ0 H0 Q0 I h => ?_⟩, ?_⟩
  · refine wpAny_Call_Name_kw (ld_glob I hg hm ?_ hdb)
    refine PySem.W.callWith_K (h₀ := X.base) I.ok.mod.kin hk (thn ((pa_cons (p_ex (e := e)) pa_nil he).run pos pins s0 σ0 H0 _ I h) fun us s1 ⟨vs, H1, I1, r, z⟩ => ⟨I1.kIn, ?_⟩) he hpl
    have z' : SpV X.K [x1] C (vs ++ []) H1 Q0 E0 := z
    rw [List.append_nil] at z'
    exact runG G hgd hr hb I1 r z'
  · refine ha w σ H m s _ fun p0 H1 us m1 f1 hp e1 hd => ?_
    have hx : p0 ∉ w.ξ := fun z => m.freshN hp (List.mem_append_right _ z)
    have hl1 : w.α.length = μ1.length := m1.len
    have hw : (w.add [p0]).cut w.α.length = w := by
      rw [take_add (Nat.le_refl _)]
      show (⟨w.α.take w.α.length, w.ξ⟩ : Wd) = w
      rw [List.take_length]
    refine ⟨w.add [p0], μ1 ++ [xs], [.ptr μ1.length], Bb b, μ1 ++ [ys], m1.adopt hx e1 hd, .cons ⟨p0, ?_, rfl⟩ .nil, rfl, hC, fun v H2 m2 f2 h2 => ?_⟩
    · rw [List.getElem?_append_right (by omega), hl1]
      simp
    · have mm := m2.cut w.α.length
      rw [hw, hl1, List.take_left] at mm
      cases h2
      refine q _ H2 mm (fun c o hc hn nt => f2 c o (f1 c o hc hn nt) (fun z => ?_) nt) (Dq.bl b)
      rcases List.mem_append.mp z with z | z
      · exact hn z
      · have : c = p0 := by simpa using z
        exact hp o (this ▸ hc) nt
end
/-! ### repr of lists and tuples -/
mutual
/-- no less than the signs of its repr -/
def rlen : PyData → Nat
  | .none => 4
  | .bool _ => 5
  | .int i => ((toString i : String) : Str).length
  | .str x => 10 * x.length + 2
  | .list xs => 3 + rlenAll xs
  | .tuple xs => 3 + rlenAll xs
  | .dict _ => 0
def rlenAll : List PyData → Nat
  | [] => 0
  | x :: xs => rlen x + 2 + rlenAll xs
end
theorem join_sum (sep : Str) : ∀ ys : List Str, (Str.join sep ys).length ≤ (ys.map fun y => y.length + sep.length).sum
  | [] => Nat.zero_le _
  | [x] => by
    show x.length ≤ _
    simp
  | x :: z :: r => by
    have := join_sum sep (z :: r)
    show (x ++ sep ++ Str.join sep (z :: r)).length ≤ _
    rw [strLen_append, strLen_append, List.map_cons, List.sum_cons]
    omega
theorem strOk_lt {x : Str} (h : PyData.strOk x = true) : ∀ c ∈ x.cps.toList, c < 16 ^ 8 := by
  unfold PyData.strOk at h
  rw [← Array.all_toList, List.all_eq_true] at h
  intro c hc
  have := of_decide_eq_true (h c hc)
  omega
mutual
theorem shown_le : ∀ d : PyData, d.canLay0 = true → d.shown.length ≤ rlen d
  | .none, _ => by rw [PyData.shown_none]; decide
  | .bool b, _ => by rw [PyData.shown_bool]; cases b <;> decide
  | .int i, _ => by rw [PyData.shown_int]; exact Nat.le_refl _
  | .str x, h => by
    rw [PyData.shown_str]
    simp only [PyData.canLay0] at h
    exact StrLaws.reprText_len x (strOk_lt h)
  | .list xs, h => by
    simp only [PyData.canLay0] at h
    have h1 := shownAll_le xs h
    have h2 := join_sum ", " (PyData.shownAll xs)
    rw [PyData.shown_list, strLen_append, strLen_append]
    have e1 : ((("[" : String) : Str)).length = 1 := by decide
    have e2 : ((("]" : String) : Str)).length = 1 := by decide
    have e3 : (((", " : String) : Str)).length = 2 := by decide
    rw [e3] at h2
    simp only [rlen]
    omega
  | .tuple xs, h => by
    simp only [PyData.canLay0] at h
    have h1 := shownAll_le xs h
    have h2 := join_sum ", " (PyData.shownAll xs)
    rw [PyData.shown_tuple, strLen_append, strLen_append]
    have e1 : ((("(" : String) : Str)).length = 1 := by decide
    have e2 : ((((if xs.length == 1 then ",)" else ")" : String) : Str))).length ≤ 2 := by split <;> decide
    have e3 : (((", " : String) : Str)).length = 2 := by decide
    rw [e3] at h2
    simp only [rlen]
    omega
  | .dict _, h => by simp [PyData.canLay0] at h
theorem shownAll_le : ∀ xs : List PyData, PyData.canLayAll0 xs = true → ((PyData.shownAll xs).map fun y => y.length + 2).sum ≤ rlenAll xs
  | [], _ => by rw [PyData.shownAll_nil]; exact Nat.zero_le _
  | x :: xs, h => by
    simp only [PyData.canLayAll0, Bool.and_eq_true] at h
    have h1 := shown_le x h.1
    have h2 := shownAll_le xs h.2
    rw [PyData.shownAll_cons, List.map_cons, List.sum_cons]
    simp only [rlenAll]
    omega
end
mutual
theorem noDict0 : ∀ d : PyData, d.canLay0 = true → d.hasDict = false
  | .none, _ => rfl
  | .bool b, _ => rfl
  | .int i, _ => rfl
  | .str x, h => rfl
  | .list xs, h => by
    simp only [PyData.canLay0] at h
    simpa only [PyData.hasDict] using noDictAll0 xs h
  | .tuple xs, h => by
    simp only [PyData.canLay0] at h
    simpa only [PyData.hasDict] using noDictAll0 xs h
  | .dict _, h => by simp [PyData.canLay0] at h
theorem noDictAll0 : ∀ xs : List PyData, PyData.canLayAll0 xs = true → PyData.hasDictAll xs = false
  | [], _ => rfl
  | x :: xs, h => by
    simp only [PyData.canLayAll0, Bool.and_eq_true] at h
    simp only [PyData.hasDictAll, noDict0 x h.1, noDictAll0 xs h.2, Bool.or_self]
end
/-- a list or tuple -/
def isSeq : PyData → Bool
  | .list _ | .tuple _ => true
  | _ => false
structure Shw (d : PyData) : Prop where
  seq : isSeq d = true
  lay : d.canLay0 = true
  shw : d.showable = true
  dep : d.depth ≤ 60
  len : rlen d ≤ 10000000
theorem EV.reprD {X : Cx} {ρ : REnv} {μ μ1 : Sto} {o : Expr} {d : PyData} {k : Nat} {pos p : Pos} (T : X.mg "repr" = none) (hgd : X.A.guards = some []) (hr : Room k X.A) (ho : EV X o ρ μ (.dat d) μ1) (hd : Shw d) (hg : Gl X "repr" := by rfl) (hs : starEach [o] X.env = (false, eval o X.env) :: starEach [] X.env := by rfl) : EV X (.Call (.Name "repr" p) [o] [] pos) ρ μ (Ss d.shown) μ1 := by
  intro w σ H m s Q q
  have cr : CallR X (.builtin "repr") (fun vs H Q => ∃ a, vs = [V.ref a] ∧ Dp X.K H (.ref a) d ∧ Q (.str d.shown) H) := by
    intro pins s σ H xs us Q I r h
    obtain ⟨a, rfl, hdp, hq⟩ := h
    obtain ⟨u, rfl, ru⟩ := vals1 r
    obtain rfl : u = Value.ref a := ru
    obtain ⟨as, rd⟩ := Dp.reads I d _ _ hdp (show RelV (V.ref a) (Value.ref a) from rfl)
    refine repr_of_reads' rd hd.shw (fun z => by rw [noDict0 d hd.lay] at z; cases z) hgd ?_ (fun _ _ e => e) (fun h' u tk kp => ?_) ?_
    · have h1 := hd.dep
      have h2 := hr.un
      omega
    · exact ⟨.str d.shown, H, I.kept (t' := tk) kp, ⟨u, rfl⟩, hq⟩
    · have := shown_le d hd.lay
      have h2 := hd.len
      exact Nat.le_trans (Nat.le_trans this h2) (by decide)
  refine ⟨_, pe_callB cr hg T (by decide +kernel) (pa_cons (p_ex (e := o)) pa_nil hs) (by decide) (by decide) hs (by rfl), ?_⟩
  refine ho w σ H m s _ fun v H1 m1 f1 h1 => ?_
  have h1' : Dq (dl H1 w.all) v d := h1
  obtain ⟨a, rfl⟩ : ∃ a, v = .ref a := by
    have := hd.seq
    cases d with
    | list ds => cases h1; exact ⟨_, rfl⟩
    | tuple ds => cases h1; exact ⟨_, rfl⟩
    | _ => cases this
  exact ⟨a, rfl, Dq.dp dl_same _ _ h1' hd.lay, q _ H1 m1 f1 (Dq.str _)⟩
end J
/-! J15: two new lists at once; list(range(n)). -/
namespace J
open PySem PySem.Spec
open PyProof.Rows L2
section
variable {X : Cx} {W : WX} {ρ : REnv} {μ μ1 μ2 : Sto} {a b e : Expr} {es : List Expr} {pos p p2 : Pos} {xs ys : List PyData} {n : Nat} {P : Out → Prop} {rest : List Stmt}
theorem EVF.lstRg {j : Int} (T : X.mg "list" = none) (T2 : X.mg "range" = none) (hc : X.calm = true) (ha : EV X a ρ μ (Ii j) μ1) (h0 : 0 ≤ j) (h1 : j ≤ 1000) (hg : Gl X "list" := by rfl) (hg2 : Gl X "range" := by rfl)
    (hs : starEach [a] X.env = (false, eval a X.env) :: starEach [] X.env := by rfl) (hs2 : starEach [.Call (.Name "range" p2) [a] [] p] X.env = (false, eval (.Call (.Name "range" p2) [a] [] p) X.env) :: starEach [] X.env := by rfl) {p3 : Pos} : EVF X (.Call (.Name "list" p3) [.Call (.Name "range" p2) [a] [] p] [] pos) ρ μ ((List.range j.toNat).map fun (i : Nat) => PyData.int (0 + (i : Int))) μ1 := by
  intro w σ H m s Q q
  refine ⟨_, pe_listRg hc hg T (prg_1 hg2 T2 (p_ex (e := a)) hs) hs2, ?_⟩
  refine ha w σ H m s _ fun v H1 m1 f1 h1 => ?_
  cases h1
  refine ⟨j, rfl, RgOk.of_le (by decide) (by omega) (by decide) h0, fun l hl => ?_⟩
  have hl0 := fresh_of m1 f1 (Nw.of hl)
  refine q l _ (rgV 0 j) (m1.keep hl) (f1.trans (Fr.of_same (Same.new hl))) hl0 upd_same ?_
  have : ∀ (bs : List Nat), DqAll (dl (upd H1 l (.lst (rgV 0 j))) (wk' w l).all) (bs.map fun i => V.int (0 + (i : Nat))) (bs.map fun (i : Nat) => PyData.int (0 + (i : Int))) := by
    intro bs
    induction bs with
    | nil => exact .nil
    | cons b bs ih => exact .cons (.int _) ih
  have e : j.toNat = (j - 0).toNat := by rw [Int.sub_zero]
  rw [e]
  exact this _
theorem Sl.grow {K : PySem.W.Frag} {H H' : Hp} {w w' : Wd} {σ : L2.St} (h : Sl K H w σ ρ) (f : Same (dl H w.all) (dl H' w'.all)) (g : ∀ (k : Nat) (c : Addr), w.α[k]? = some c → w'.α[k]? = some c) : Sl K H' w' σ ρ := ⟨h.len, fun i r e => by
  obtain ⟨v, hv, hr⟩ := h.at_ i r e
  refine ⟨v, hv, ?_⟩
  match r, hr with
  | .dat d, hr => exact dq_mono f d v hr
  | .ptr k, hr => exact ⟨hr.choose, g _ _ hr.choose_spec.1, hr.choose_spec.2⟩
  | .obj C fs, hr =>
    obtain ⟨x, dx, ws, e, hx, hn, hd⟩ := hr
    exact ⟨x, dx, ws, e, f _ _ hx, hn, dqAll_mono f _ _ hd⟩
  | .raw u, hr => exact hr
  | .exc a d fs, hr =>
    obtain ⟨e, ws, hx, hn, hd⟩ := hr
    exact ⟨e, ws, f _ _ hx, hn, dqAll_mono f _ _ hd⟩
  | .scr ns, hr =>
    obtain ⟨c, e, hs⟩ := hr
    exact ⟨c, e, Same.seq f hs⟩⟩
/-- x, y = two new lists -/
theorem ST.par2 {i j : Nat} {x y : Str} {px py pt : Pos} {kt k2 pt2} (ha : EVF X a ρ μ xs μ1) (hb : EVF X b ρ μ1 ys μ2) (hN : X.N.Nodup) (hi : X.N[i]? = some x) (hj : X.N[j]? = some y) (hij : i ≠ j)
    (hx : X.env.scope.names.lookup x = some .local) (hy : X.env.scope.names.lookup y = some .local) (hr : ST X W n rest ((ρ.set i (some (.ptr (μ2.length + 1)))).set j (some (.ptr μ2.length))) (μ2 ++ [ys] ++ [xs]) P)
    (hw : swappedStores [.Tuple [.Name x px, .Name y py] kt pt] (.Tuple [a, b] k2 pt2) X.env = pure (some [x, y])) (hc : X.calm = true := by rfl)
    (hs : swapsWithSole [.Tuple [.Name x px, .Name y py] kt pt] (.Tuple [a, b] k2 pt2) pos.line X.env = pure false := by rfl) (he : starEach [a, b] X.env = (false, eval a X.env) :: starEach [b] X.env := by rfl) (he2 : starEach [b] X.env = (false, eval b X.env) :: starEach [] X.env := by rfl) : ST X W n (.Assign [.Tuple [.Name x px, .Name y py] kt pt] (.Tuple [a, b] k2 pt2) pos :: rest) ρ μ P := by
  intro w σ H D hn m s q
  refine ⟨_, pss_cons (ps_par hc hN hi hj hij hx hy (pa_cons (p_ex (e := a)) (pa_cons (p_ex (e := b)) pa_nil he2) he) hw hs) p_sx, ?_⟩
  refine ha w σ H m s _ fun c1 H1 us m1 f1 hc1 e1 hd1 => ?_
  have g1 : Same (dl H w.all) (dl H1 (wk' w c1).all) := keep_outN (K := X.K) hc1 f1 ⟨_, e1⟩
  refine hb (wk' w c1) σ H1 m1 (s.same2 g1) _ fun c2 H2 vs m2 f2 hc2 e2 hd2 => ?_
  have g2 : Same (dl H1 (wk' w c1).all) (dl H2 (wk' (wk' w c1) c2).all) := keep_outN (K := X.K) hc2 f2 ⟨_, e2⟩
  have n1 : c1 ∉ w.all := m.freshN hc1
  have n2 : c2 ∉ (wk' w c1).all := m1.freshN hc2
  have e1' : H2 c1 = some (.lst us) := f2 c1 _ e1 (fun z => n1 (List.mem_append_left _ z)) (fun q z => by cases z)
  have hd1' : DqAll (dl H2 (wk' (wk' w c1) c2).all) us xs := dqAll_mono g2 _ _ hd1
  have a1 : Mem X.K H2 ((wk' w c1).add [c2]) (μ2 ++ [ys]) := m2.adopt (fun z => n2 (List.mem_append_right _ z)) e2 hd2
  have all1 : ∀ c, c ∈ ((wk' w c1).add [c2]).all → c ∈ (wk' (wk' w c1) c2).all := fun c hc => by
    rw [all_wk', all_wk']
    simp only [Wd.all, List.mem_append, List.mem_cons, List.not_mem_nil, or_false] at hc ⊢
    rcases hc with (h | h) | (h | h)
    · exact .inr (.inr (.inl h))
    · exact .inl h
    · exact .inr (.inl h)
    · exact .inr (.inr (.inr h))
  have a2 : Mem X.K H2 ((w.add [c2]).add [c1]) (μ2 ++ [ys] ++ [xs]) := Mem.adopt (w := w.add [c2]) a1 (fun z => n1 (List.mem_append_right _ z)) e1' (dqAll_mono (dl_sub all1) _ _ hd1')
  have f12 : Fr w.α H H2 := f1.trans f2
  have al : w.add [c2, c1] = (w.add [c2]).add [c1] := by simp [Wd.add]
  have sl : Sl X.K H2 ((w.add [c2]).add [c1]) σ ρ := by
    refine s.grow ((g1.trans g2).trans (dl_sub fun c hc => ?_)) fun k c hk => ?_
    · rw [all_wk', all_wk']
      simp only [Wd.all, List.mem_append, List.mem_cons, List.not_mem_nil, or_false] at hc ⊢
      rcases hc with ((h | h) | h) | h
      · exact .inr (.inr (.inl h))
      · exact .inl h
      · exact .inr (.inl h)
      · exact .inr (.inr (.inr h))
    · have hk' := (List.getElem?_eq_some_iff.mp hk).1
      show ((w.α ++ [c2]) ++ [c1])[k]? = some c
      rw [List.getElem?_append_left (by simp; omega), List.getElem?_append_left hk']
      exact hk
  have l2 : w.α.length = μ2.length := m2.len
  refine ⟨.ref c1, .ref c2, rfl, hr ((w.add [c2]).add [c1]) _ H2 D (by simp; omega) a2 ((sl.set (v := .ref c1) (r := .ptr (μ2.length + 1)) ⟨c1, ?_, rfl⟩).set (v := .ref c2) (r := .ptr μ2.length) ⟨c2, ?_, rfl⟩) fun o ho => ?_⟩
  · show ((w.α ++ [c2]) ++ [c1])[μ2.length + 1]? = some c1
    rw [List.getElem?_append_right (by simp; omega)]
    simp [l2]
  · show ((w.α ++ [c2]) ++ [c1])[μ2.length]? = some c2
    rw [List.getElem?_append_left (by simp; omega), List.getElem?_append_right (by omega)]
    simp [l2]
  · rw [← al]
    refine Fin.grow (q o ho) hn f12 fun c hc => ?_
    rcases List.mem_cons.mp hc with rfl | hc
    · exact fresh_of m1.unkeep f1 hc2
    · have : c = c1 := by simpa using hc
      rw [this]
      exact hc1
end
end J
/-! J16: keywords in calls of classes and methods. -/
namespace J
open PySem PySem.Spec
open PyProof.Rows L2
theorem kbn {K : PySem.W.Frag} {x qual : Str} {st : Stmt} {f : Addr} {fd : FuncData} {ps ks : List Str} {n : Nat} (F : Fun K x qual st f fd)
    (h : ∀ (kV doc pm : Value) (an : Option Addr) (cdv ct : Value) (us ws : List Value), us.length = n → ws.length = ks.length → bindArgs (PySem.W.fnOf x qual (defArgs st) (defBody st) (defScope st) .none kV doc pm an cdv ct) ⟨us, ks.zip ws⟩ = pure (ps.zip (us ++ ws))) : KBn K fd ps n ks (fun us ws => us ++ ws) (fun vs zs => vs ++ zs) := by
  obtain ⟨oc, od, kV, doc, pm, an, cdv, ct, osl, rfl, lk, hcd⟩ := F.ex
  exact ⟨fun s us ws _ l1 l2 => .of_eq (h kV doc pm an cdv ct us ws l1 l2), fun r1 r2 => r1.append r2⟩
section
variable {w : World} {P : Program} {K : PySem.W.Frag} {base : Heap} {mg : Str → Option Value}
structure MakK (P : Program) (w : World) (K : PySem.W.Frag) (mg : Str → Option Value) (base : Heap) (n : Str) (C : Addr) (f kw : Str) (k : Nat) (ps : List Str) (G : List PyData → Prop) : Prop where
  ex : ∃ g fd, FnOk P w K mg base CX0 k g fd ps (spInit K C f G) ∧ Mk K C g ∧ mg n = some (.ref C) ∧ KBn K fd ps 1 [kw] (fun us ws => us ++ ws) (fun vs zs => vs ++ zs)
structure MthK (P : Program) (w : World) (K : PySem.W.Frag) (mg : Str → Option Value) (base : Heap) (C : Addr) (m kw : Str) (k : Nat) (ps : List Str) (c : Con) : Prop where
  ex : ∃ f fd, FnOk P w K mg base CX0 k f fd ps (SpV K ps c) ∧ Meth K C m f ∧ KBn K fd ps 1 [kw] (fun us ws => us ++ ws) (fun vs zs => vs ++ zs)
end
section
variable {X : Cx} {ρ : REnv} {μ μ1 μ2 μ3 : Sto} {a b c e o : Expr} {pos p2 p apos kpos : Pos} {rs : List Ent} {r : Ent} {n f m kw : Str} {C : Addr} {fs : List (Str × PyData)} {k : Nat} {ps : List Str} {cn : Con}
theorem EV.makeK {G : List PyData → Prop} {gs : List PyData} (M : MakK X.prog X.w X.K X.mg X.base n C f kw k ps G) (hr : Room (k + 1) X.A) (ha : EV X e ρ μ (Tp gs) μ1) (hG : G gs) (hg : Gl X n := by rfl) (hdb : (n == ("__debug__" : Str)) = false := by decide)
    (hall : (backToKw pos (keywordEach [⟨some kw, e, kpos⟩] X.env)).all (·.1.isSome) = true := by rfl) (hks : (backToKw pos (keywordEach [⟨some kw, e, kpos⟩] X.env)).filterMap (·.1) = [kw] := by rfl)
    (hpl : ((backTo pos (starEach [] X.env)).any (·.1) || (backToKw pos (keywordEach [⟨some kw, e, kpos⟩] X.env)).any (·.1.isNone)) = false := by rfl) : EV X (.Call (.Name n p) [] [⟨some kw, e, kpos⟩] pos) ρ μ (.obj C [(f, .tuple gs)]) μ1 := by
  intro w σ H m s Q q
  obtain ⟨g, fd, F, mk, hm, bi⟩ := M.ex
  refine ⟨_, pe_makeK0 (E := E0) mk F hr hg hm bi pass0 (pk_cons (p_ex (e := e)) pk_nil) hall hks hdb hpl, ?_⟩
  refine ha w σ H m s _ fun v H1 m1 f1 h1 => ?_
  refine ⟨rfl, rfl, fun x dx hx hdx hne => ?_⟩
  refine ⟨x, dx, v, wk' w x, μ1, gs, rfl, upd_same, List.mem_cons_self, make_mem m1 hx hdx hne, make_val h1 hx hdx, hG, fun H2 m2 f2 h2 => ⟨rfl, ?_⟩⟩
  exact make_end (Q := Q) (v := v) m1 hx hdx hne (fun u H' mm ff hh => q u H' mm (f1.trans ff) hh) m2 f2 h2
def tMethK (C : Addr) (m : Str) (sp : Sp) (E : XK) (to : TE) (tk : TA) : TE := fun σ H Q => to σ H fun x H1 => ∃ a dx fs, x = .ref a ∧ H1 a = some (.ins C dx fs) ∧ fs.lookup m = none ∧ tk σ H1 fun zs H2 => zs.length = 1 ∧ sp ([.ref a] ++ zs) H2 Q E
theorem pe_methKw {pl : Sem Bool} {to : TE} {tk : TA} {g : Addr} {fd : FuncData} {sp : Sp} (ho : PE X o to) (cl : Cls X.K C) (hm : Meth X.K C m g) (F : FnOk X.prog X.w X.K X.mg X.base CX0 k g fd ps sp) (hr : Room k X.A) (hb : KBn X.K fd ps 1 [kw] (fun us ws => us ++ ws) (fun vs zs => vs ++ zs)) (hkw : PK X [⟨some kw, e, kpos⟩] tk)
    (hall : (backToKw pos (keywordEach [⟨some kw, e, kpos⟩] X.env)).all (·.1.isSome) = true := by rfl) (hks : (backToKw pos (keywordEach [⟨some kw, e, kpos⟩] X.env)).filterMap (·.1) = [kw] := by rfl)
    (hpl : ((backTo pos (starEach [] X.env)).any (·.1) || (backToKw pos (keywordEach [⟨some kw, e, kpos⟩] X.env)).any (·.1.isNone)) = false := by rfl)
    (ht : eval (.Call (.Attribute o m apos) [] [⟨some kw, e, kpos⟩] pos) X.env = (do
      let ov ← eval o X.env
      standAt apos.atName
      let (f, first) ← holding [ov] (getMethod ov m pl)
      callWith pos f first (backTo pos (starEach [] X.env)) (backToKw pos (keywordEach [⟨some kw, e, kpos⟩] X.env))) := by rfl) : PE X (.Call (.Attribute o m apos) [] [⟨some kw, e, kpos⟩] pos) (tMethK C m sp E0 to tk) := by
  refine ⟨fun pins s σ H Q I h => ?_⟩
  refine PySem.W.methodCall_KW (pl := pl) (thn (ho.run pins s σ H _ I h) fun u s1 ⟨x, H1, I1, rx, a, dx, fs, ex, ea, l, q⟩ => ?_) ht
  subst ex
  obtain rfl : u = Value.ref a := rx
  refine getmeth_ok I1 ea cl hm l ?_
  refine PySem.W.callWith_KW0 (first := [.ref a]) (h₀ := X.base) I.ok.mod.kin hm.kp hall ?_ hpl
  refine thn (hkw.run pos pins s1 σ H1 _ I1 q) fun ws s2 ⟨zs, H2, I2, rz, l2, q2⟩ => ⟨I2.kIn, ?_⟩
  rw [hks]
  exact run_fnN (us := [.ref a]) (vs := [.ref a]) F hr hb pass0 I2 (.cons rfl .nil) rz rfl l2 q2
theorem EV.methK {pl : Sem Bool} (ho : EV X o ρ μ (.obj C fs) μ1) (cl : Cls X.K C) (hm : MthK X.prog X.w X.K X.mg X.base C m kw k ps cn) (hr : Room k X.A) (hl : fs.lookup m = none) (ha : EV X e ρ μ1 r μ2) {r3 : Ent} (hC : cn [.obj C fs, r] μ2 r3 μ3) (hps : ps.length = 2 := by rfl)
    (hall : (backToKw pos (keywordEach [⟨some kw, e, kpos⟩] X.env)).all (·.1.isSome) = true := by rfl) (hks : (backToKw pos (keywordEach [⟨some kw, e, kpos⟩] X.env)).filterMap (·.1) = [kw] := by rfl)
    (hpl : ((backTo pos (starEach [] X.env)).any (·.1) || (backToKw pos (keywordEach [⟨some kw, e, kpos⟩] X.env)).any (·.1.isNone)) = false := by rfl)
    (ht : eval (.Call (.Attribute o m apos) [] [⟨some kw, e, kpos⟩] pos) X.env = (do
      let ov ← eval o X.env
      standAt apos.atName
      let (f, first) ← holding [ov] (getMethod ov m pl)
      callWith pos f first (backTo pos (starEach [] X.env)) (backToKw pos (keywordEach [⟨some kw, e, kpos⟩] X.env))) := by rfl) : EV X (.Call (.Attribute o m apos) [] [⟨some kw, e, kpos⟩] pos) ρ μ r3 μ3 := by
  intro w σ H m0 s Q q
  obtain ⟨g, fd, F, me, bi⟩ := hm.ex
  refine ⟨_, pe_methKw (pl := pl) (p_ex (e := o)) cl me F hr bi (pk_cons (p_ex (e := e)) pk_nil) hall hks hpl ht, ?_⟩
  refine ho w σ H m0 s _ fun v H1 m1 f1 h1 => ?_
  have h1' := h1
  obtain ⟨x, dx, ws, rfl, hx, hn, hd⟩ := h1
  refine ⟨x, dx, ws, rfl, (dl_some hx).2, lk_none hn hl, ?_⟩
  refine ha w σ H1 m1 (s.fr f1) _ fun u H2 m2 f2 h2 => ?_
  exact ⟨rfl, w, μ2, [.obj C fs, r], r3, μ3, m2, .cons (r := .obj C fs) (h1'.fr f2) (.cons h2 .nil), hps.symm, hC, fun v H' m3 f3 h3 => q v H' m3 ((f1.trans f2).trans f3) h3⟩
end
end J
/-! J17: bool of an object. -/
namespace JB
open PySem
open PySem.Sem (wp)
theorem mb_obj (l : Addr) : Meets (Builtin.«bool.__new__» ⟨[.type "bool", .ref l], []⟩) (fun _ R s => (∀ (M : Model) (A : Around) (E : Value → Shared → Prop) (Q : Bool → Shared → Prop), Q true s → wpAny M A (truthy (.ref l)) Q E s) ∧ R (.ok (.ret (.bool true))) s) :=
  Meets.of_wp fun prog w A R s h0 => by
    obtain ⟨ht, h1⟩ := h0
    obtain ⟨hp, gg, d, tk, o1⟩ := s
    have f0 := F.conv_sub_bool
    repeat (any_goals (first | assumption | (with_reducible refine ht _ _ _ _ ?_) | wp_step))
    all_goals first | exact ⟨_, rfl, h1⟩ | exact h1 | skip
end JB
namespace J
open PySem PySem.Spec
open PyProof.Rows L2
theorem EV.boolO {X : Cx} {ρ : REnv} {μ μ1 : Sto} {o : Expr} {C : Addr} {fs : List (Str × PyData)} {pos p : Pos} (T : X.mg "bool" = none) (ho : EV X o ρ μ (.obj C fs) μ1) (h1 : PySem.W.findIn X.K (.ref C) "__bool__" = some none) (h2 : PySem.W.findIn X.K (.ref C) "__len__" = some none) (hg : Gl X "bool" := by rfl) (hs : starEach [o] X.env = (false, eval o X.env) :: starEach [] X.env := by rfl) : EV X (.Call (.Name "bool" p) [o] [] pos) ρ μ (Bb true) μ1 := by
  intro w σ H m s Q q
  have cr : CallR X (.type "bool") (fun vs H Q => ∃ x dx ws, vs = [V.ref x] ∧ H x = some (.ins C dx ws) ∧ Q (.bl true) H) := by
    intro pins s σ H xs us Q I r h
    obtain ⟨x, dx, ws, rfl, hx, hq⟩ := h
    obtain ⟨u, rfl, ru⟩ := vals1 r
    obtain rfl : u = Value.ref x := ru
    obtain ⟨od, J⟩ := ins_at I hx
    obtain ⟨mm, Fr0⟩ := I.fr
    exact call_bool_1 (JB.mb_obj x) ⟨fun M A E Q hQ => PySem.W.truthy_K0 Fr0 I.mod.kin J h1 h2 hQ, rfl, .bl true, H, I, rfl, hq⟩
  refine ⟨_, pe_callTy cr hg T (by decide +kernel) (pa_cons (p_ex (e := o)) pa_nil hs) (by decide) (by decide) hs (by rfl), ?_⟩
  refine ho w σ H m s _ fun v H1 m1 f1 h1 => ?_
  obtain ⟨x, dx, ws, rfl, hx, hn, hd⟩ := h1
  exact ⟨x, dx, ws, rfl, (dl_some hx).2, q _ H1 m1 f1 (Dq.bl true)⟩
end J
/-! J18: objects compared, their class asked. -/
namespace J
open PySem PySem.Spec
open PyProof.Rows L2
structure OwnB (P : Program) (w : World) (K : PySem.W.Frag) (mg : Str → Option Value) (base : Heap) (C : Addr) (m : Str) (k : Nat) (cn : Con) : Prop where
  ex : ∃ f fd, FnOk P w K mg base CX0 k f fd ["self", "other"] (SpV K ["self", "other"] cn) ∧ PySem.W.findIn K (.ref C) m = some (some (.ref f)) ∧ PySem.W.isFn K (.ref f) = true ∧ Binds K fd ["self", "other"] []
section
variable {X : Cx} {ρ : REnv} {μ μ1 μ2 μ3 : Sto} {a b o : Expr} {pos p p2 : Pos} {C : Addr} {fs gs : List (Str × PyData)} {k : Nat} {cn : Con} {n : Str}
theorem own_run2 {A : Around} {pins : List (Addr × Obj)} {σ : L2.St} {H : Hp} {s : Shared} {g x y : Addr} {fd : FuncData} {sp : Sp} {Q : VK} {R E' : Value → Shared → Prop} (F : FnOk X.prog X.w X.K X.mg X.base CX0 k g fd ["self", "other"] sp) (hr : Room k A) (hf : A.frames = some X.stack) (bi : Binds X.K fd ["self", "other"] []) (I : Inv X pins σ H s)
    (h : sp [.ref x, .ref y] H Q E0) (hR : ∀ u s', EP X pins σ Q u s' → R u s') : wpAny (model X.prog X.w) A (call (.ref g) [.ref x, .ref y]) R E' s := by
  have e0 := I.env0
  have e1 : Env0 X.prog X.w X.K X.mg X.base A X.stack s H := ⟨hf, e0.mod, e0.bs, e0.bsz, e0.funs, e0.frf, e0.hok, e0.bare⟩
  refine wpAny_call (codeAny_mono (F.run A X.stack s H ⟨[.ref x, .ref y], []⟩ [.ref x, .ref y] [.ref x, .ref y] Q E0 hr e1 (bi s [.ref x, .ref y] I.kIn rfl) (.cons rfl (.cons rfl .nil)) h) fun rr t hq => ?_)
  match rr, hq with
  | .ok (.ret u), hq => exact hR u t (I.after hq)
def rEqO (C : Addr) (sp : Sp) : R2 := fun x y H Q => ∃ c d dx dy fs gs, x = .ref c ∧ y = .ref d ∧ H c = some (.ins C dx fs) ∧ H d = some (.ins C dy gs) ∧ sp [.ref c, .ref d] H (fun v H' => ∃ kk, v = .bl kk ∧ Q (.bl kk) H') E0
theorem op_eqO {f : Addr} {fd : FuncData} {sp : Sp} (F : FnOk X.prog X.w X.K X.mg X.base CX0 k f fd ["self", "other"] sp) (h1 : PySem.W.findIn X.K (.ref C) "__eq__" = some (some (.ref f))) (h2 : PySem.W.isFn X.K (.ref f) = true) (bi : Binds X.K fd ["self", "other"] []) (hr : Room k X.A) : OpR X (compareOp .Eq) (rEqO C sp) := by
  intro pins s σ H x y v u Q I rx ry hq
  obtain ⟨c, d, dx, dy, fs, gs, rfl, rfl, hc, hd, hsp⟩ := hq
  obtain rfl : v = Value.ref c := rx
  obtain rfl : u = Value.ref d := ry
  obtain ⟨oc, J1⟩ := ins_at I hc
  obtain ⟨od, J2⟩ := ins_at I hd
  obtain ⟨mm, Fr0⟩ := I.fr
  show wpAny (model X.prog X.w) X.A (richCompare .Eq (.ref c) (.ref d)) (EP X pins σ Q) X.xe s
  refine PySem.W.cmp_K (op := .Eq) (tb := .ref C) hr.units0 Fr0 I.mod.kin J1 J2.type (by simp [PySem.W.notFirst]) h1 h2 (own_run2 F hr I.ok.frames bi I hsp fun u t z => ?_)
  obtain ⟨z1, H', I', r1, kk, rfl, hq⟩ := z
  obtain rfl : u = Value.bool kk := r1
  exact ⟨.bl kk, H', I', rfl, hq⟩
theorem r2_eqO {kk : Bool} (hC : cn [.obj C fs, .obj C gs] μ (Bb kk) μ) {K : PySem.W.Frag} : R2V K (rEqO C (SpV K ["self", "other"] cn)) (.obj C fs) (.obj C gs) (Bb kk) μ := by
  intro w H v u m hv hu Q q
  have hv' := hv
  have hu' := hu
  obtain ⟨x, dx, ws, rfl, hx, _, _⟩ := hv
  obtain ⟨y, dy, us, rfl, hy, _, _⟩ := hu
  refine ⟨x, y, dx, dy, ws, us, rfl, rfl, (dl_some hx).2, (dl_some hy).2, w, μ, [.obj C fs, .obj C gs], Bb kk, μ, m, .cons (r := .obj C fs) hv' (.cons (r := .obj C gs) hu' .nil), rfl, hC, fun t H' m2 f2 h2 => ?_⟩
  cases h2
  exact ⟨kk, rfl, q _ H' m2 f2 (Dq.bl kk)⟩
theorem cEqO {kk : Bool} (M : OwnB X.prog X.w X.K X.mg X.base C "__eq__" k cn) (hr : Room k X.A) (ha : EV X a ρ μ (.obj C fs) μ1) (hb : EV X b ρ μ1 (.obj C gs) μ2) (hC : cn [.obj C fs, .obj C gs] μ2 (Bb kk) μ2) : EV X (.Compare a [.Eq] [b] pos) ρ μ (Bb kk) μ2 := by
  obtain ⟨f, fd, F, h1, h2, bi⟩ := M.ex
  exact ha.cmp (op_eqO F h1 h2 bi hr) (nomark _) hb (r2_eqO hC)
/-- isinstance(an object, its class) -/
theorem EV.isC (c : C8.InsC X.K C) (T : X.mg "isinstance" = none) (hm : X.mg n = some (.ref C)) (ho : EV X o ρ μ (.obj C fs) μ1) (hg : Gl X "isinstance" := by rfl) (hgT : Gl X n := by rfl) (hdb : (n == ("__debug__" : Str)) = false := by decide)
    (he : starEach [o, .Name n p2] X.env = (false, eval o X.env) :: starEach [.Name n p2] X.env := by rfl) (he2 : starEach [.Name n p2] X.env = (false, eval (.Name n p2) X.env) :: starEach [] X.env := by rfl) (hpl : (backTo pos (starEach [.Name n p2] X.env)).any (·.1) = false := by rfl) : EV X (.Call (.Name "isinstance" p) [o, .Name n p2] [] pos) ρ μ (Bb true) μ1 := by
  intro w σ H m s Q q
  refine ⟨_, pe_callB (C8.call_isC c) hg T (by decide +kernel) (pa_cons (p_ex (e := o)) (pa_cons (pe_glob (v := .ref C) hgT hm rfl hdb) pa_nil he2) he) (by decide) (by decide) he hpl, ?_⟩
  refine ho w σ H m s _ fun v H1 m1 f1 h1 => ?_
  obtain ⟨x, dx, ws, rfl, hx, hn, hd⟩ := h1
  exact ⟨x, dx, ws, rfl, (dl_some hx).2, q _ H1 m1 f1 (Dq.bl true)⟩
/-! three keywords, in the reverse order of the parameters -/
structure MthR (P : Program) (w : World) (K : PySem.W.Frag) (mg : Str → Option Value) (base : Heap) (C : Addr) (m : Str) (ks : List Str) (k : Nat) (ps : List Str) (c : Con) : Prop where
  ex : ∃ f fd, FnOk P w K mg base CX0 k f fd ps (SpV K ps c) ∧ Meth K C m f ∧ KBn K fd ps 1 ks (fun us ws => us ++ ws.reverse) (fun vs zs => vs ++ zs.reverse)
theorem vals_rev : ∀ {vs : List V} {us : List Value}, Vals vs us → Vals vs.reverse us.reverse
  | _, _, .nil => .nil
  | _, _, .cons h t => by
    rw [List.reverse_cons, List.reverse_cons]
    exact (vals_rev t).append (.cons h .nil)
theorem kbnR {K : PySem.W.Frag} {x qual : Str} {st : Stmt} {f : Addr} {fd : FuncData} {ps ks : List Str} {n : Nat} (F : Fun K x qual st f fd)
    (h : ∀ (kV doc pm : Value) (an : Option Addr) (cdv ct : Value) (us ws : List Value), us.length = n → ws.length = ks.length → bindArgs (PySem.W.fnOf x qual (defArgs st) (defBody st) (defScope st) .none kV doc pm an cdv ct) ⟨us, ks.zip ws⟩ = pure (ps.zip (us ++ ws.reverse))) : KBn K fd ps n ks (fun us ws => us ++ ws.reverse) (fun vs zs => vs ++ zs.reverse) := by
  obtain ⟨oc, od, kV, doc, pm, an, cdv, ct, osl, rfl, lk, hcd⟩ := F.ex
  exact ⟨fun s us ws _ l1 l2 => .of_eq (h kV doc pm an cdv ct us ws l1 l2), fun r1 r2 => r1.append (vals_rev r2)⟩
variable {e1 e2 e3 : Expr} {m : Str} {ks ps : List Str} {apos q1 q2 q3 : Pos} {k1 k2 k3 : Str} {r1 r2 r3 r : Ent} {μ4 μ5 : Sto}
theorem EV.methR {pl : Sem Bool} (ho : EV X o ρ μ (.obj C fs) μ1) (cl : Cls X.K C) (hm : MthR X.prog X.w X.K X.mg X.base C m [k1, k2, k3] k ps cn) (hr : Room k X.A) (hl : fs.lookup m = none) (h1 : EV X e1 ρ μ1 r1 μ2) (h2 : EV X e2 ρ μ2 r2 μ3) (h3 : EV X e3 ρ μ3 r3 μ4) (hC : cn [.obj C fs, r3, r2, r1] μ4 r μ5) (hps : ps.length = 4 := by rfl)
    (hall : (backToKw pos (keywordEach [⟨some k1, e1, q1⟩, ⟨some k2, e2, q2⟩, ⟨some k3, e3, q3⟩] X.env)).all (·.1.isSome) = true := by rfl) (hks : (backToKw pos (keywordEach [⟨some k1, e1, q1⟩, ⟨some k2, e2, q2⟩, ⟨some k3, e3, q3⟩] X.env)).filterMap (·.1) = [k1, k2, k3] := by rfl)
    (hpl : ((backTo pos (starEach [] X.env)).any (·.1) || (backToKw pos (keywordEach [⟨some k1, e1, q1⟩, ⟨some k2, e2, q2⟩, ⟨some k3, e3, q3⟩] X.env)).any (·.1.isNone)) = false := by rfl)
    (ht : eval (.Call (.Attribute o m apos) [] [⟨some k1, e1, q1⟩, ⟨some k2, e2, q2⟩, ⟨some k3, e3, q3⟩] pos) X.env = (do
      let ov ← eval o X.env
      standAt apos.atName
      let (f, first) ← holding [ov] (getMethod ov m pl)
      callWith pos f first (backTo pos (starEach [] X.env)) (backToKw pos (keywordEach [⟨some k1, e1, q1⟩, ⟨some k2, e2, q2⟩, ⟨some k3, e3, q3⟩] X.env))) := by rfl) : EV X (.Call (.Attribute o m apos) [] [⟨some k1, e1, q1⟩, ⟨some k2, e2, q2⟩, ⟨some k3, e3, q3⟩] pos) ρ μ r μ5 := by
  intro w σ H m0 s Q q
  obtain ⟨g, fd, F, me, bi⟩ := hm.ex
  refine ⟨fun σ H Q => EX X o σ H fun x H1 => ∃ a dx fs, x = .ref a ∧ H1 a = some (.ins C dx fs) ∧ fs.lookup m = none ∧ tCons (EX X e1) (tCons (EX X e2) (tCons (EX X e3) tNil)) σ H1 fun zs H2 => zs.length = 3 ∧ (SpV X.K ps cn) ([.ref a] ++ zs.reverse) H2 Q E0, ⟨fun pins s σ H Q I h => ?_⟩, ?_⟩
  · refine PySem.W.methodCall_KW (pl := pl) (thn ((p_ex (e := o)).run pins s σ H _ I h) fun u t1 ⟨x, H1, I1, rx, a, dx, fs, ex, ea, l, z⟩ => ?_) ht
    subst ex
    obtain rfl : u = Value.ref a := rx
    refine getmeth_ok I1 ea cl me l ?_
    refine PySem.W.callWith_KW0 (first := [.ref a]) (h₀ := X.base) I.ok.mod.kin me.kp hall ?_ hpl
    refine thn ((pk_cons (p_ex (e := e1)) (pk_cons (p_ex (e := e2)) (pk_cons (p_ex (e := e3)) pk_nil))).run pos pins t1 σ H1 _ I1 z) fun ws t2 ⟨zs, H2, I2, rz, l2, z2⟩ => ⟨I2.kIn, ?_⟩
    rw [hks]
    exact run_fnN (us := [.ref a]) (vs := [.ref a]) F hr bi pass0 I2 (.cons rfl .nil) rz rfl l2 z2
  · refine ho w σ H m0 s _ fun v H1 m1 f1 h1' => ?_
    have hobj := h1'
    obtain ⟨x, dx, ws, rfl, hx, hn, hd⟩ := h1'
    refine ⟨x, dx, ws, rfl, (dl_some hx).2, lk_none hn hl, ?_⟩
    refine h1 w σ H1 m1 (s.fr f1) _ fun v1 H2 m2 f2 w1 => ?_
    refine h2 w σ H2 m2 ((s.fr f1).fr f2) _ fun v2 H3 m3 f3 w2 => ?_
    refine h3 w σ H3 m3 (((s.fr f1).fr f2).fr f3) _ fun v3 H4 m4 f4 w3 => ?_
    exact ⟨rfl, w, μ4, [.obj C fs, r3, r2, r1], r, μ5, m4, .cons (r := .obj C fs) (((hobj.fr f2).fr f3).fr f4) (.cons w3 (.cons (w2.fr f4) (.cons ((w1.fr f3).fr f4) .nil))), hps.symm, hC, fun z H' m5 f5 w5 => q z H' m5 ((((f1.trans f2).trans f3).trans f4).trans f5) w5⟩
end
end J
/-! J19: a, *b = a list. -/
namespace JS
open PySem
section
variable {prog : Program} {w : World} {A : Around} {E : Value → Shared → Prop}
/-- the rest of a list, walked by its iterator -/
theorem rest_walks (it l : Addr) (items : Array Value) (i0 : Nat) (hh : A.handled = none) (hil : it ≠ l) : WalksS prog w A it [it, l] [it] (fun a b => a = b) (items.size - i0) (fun i v => items[i0 + i]? = some v) (fun i s => i ≤ items.size - i0 ∧ s.heap.IsListIter it l (i0 + i) ∧ s.heap.IsList l items) := by
  refine ⟨fun b hb => by simp at hb; simp [hb], fun _ => rfl, fun _ _ _ h1 h2 => h1.trans h2, fun i s h' tk st _ hk => ?_, fun i s Q E hi st hQ => ?_, fun s Q E st hQ => ?_, fun i s Q E st hQ => ?_⟩
  · obtain ⟨h0, ⟨o1, a1, b1⟩, ⟨o2, a2, b2⟩⟩ := st
    exact ⟨h0, ⟨o1, hk it (by simp) _ a1, b1⟩, ⟨o2, hk l (by simp) _ a2, b2⟩⟩
  · obtain ⟨h0, h1, h2⟩ := st
    have hlt : i0 + i < items.size := by omega
    refine wpAny_pyNext_list_item h1 h2 (x := items[i0 + i]) (by simp [hlt]) fun h' hi' sb => ?_
    refine hQ _ _ (by simp [hlt]) ⟨by omega, hi', h2.extBut sb.extBut (Ne.symm hil)⟩ ⟨fun b o hb e => sb.extBut b o (fun z => hb (by simp [z])) e, rfl, rfl, rfl, Nat.le_refl _⟩
  · obtain ⟨h0, h1, h2⟩ := st
    refine wpAny_pyNext_list_end hh h1 h2 (by
      have : items.size ≤ i0 + (items.size - i0) := by omega
      simp [this]) fun h' eb => ?_
    exact hQ _ ⟨fun b o hb e => eb b o (fun z => hb (by simp [z])) e, rfl, rfl, rfl, Nat.le_refl _⟩
  · exact wpAny_pyIter_listiter st.2.1 hQ
/-- a, *b of a list: the first, a new list of the others -/
theorem unpack_star {l : Addr} {items : Array Value} {x : Value} {s : Shared} {Q : List Value → Shared → Prop} (hh : A.handled = none) (hl : s.heap.IsList l items) (hx : items[0]? = some x) (hz : items.size ≤ sizeLine)
    (hQ : ∀ t : Shared, (∀ b o, s.heap.get? b = some o → t.heap.get? b = some o) → t.gens = s.gens → t.drawn = s.drawn → t.os = s.os → Q [x, .ref t.heap.objs.size] { t with heap := t.heap.push { cls := .type "list", data := .seq (items.toList.drop 1).toArray } }) :
    wpAny (model prog w) A (unpackItems (.ref l) 2 (some 1)) Q E s := by
  have hlt : l ≠ s.heap.objs.size := by
    obtain ⟨o, ho, _⟩ := hl
    exact Nat.ne_of_lt (Heap.lt_size ho)
  have hsz : 0 < items.size := (Array.getElem?_eq_some_iff.mp hx).1
  unfold unpackItems
  refine wpAny_bind ?_
  unfold notIterableAtAll
  refine wpAny_bind (wpAny_specialOf hl.typeIs F.slot_list_iter.lookup ?_)
  refine wpAny_pure ?_
  simp only [Bool.false_eq_true, if_false]
  refine wpAny_bind (wpAny_holding (wpAny_pyIter_list hl ?_))
  have hit : (s.heap.push ({ cls := .type "list_iterator", data := .fields #[.ref l, .int 0 0] } : Obj)).IsListIter s.heap.objs.size l 0 := ⟨_, Heap.get?_push_size _ rfl, rfl, rfl⟩
  refine wpAny_bind (wpAny_holding ?_)
  show wpAny _ _ (pyNext (.ref s.heap.objs.size) >>= _) _ _ _
  refine wpAny_bind (wpAny_pyNext_list_item hit (hl.push _) hx fun h1 hit1 sb1 => ?_)
  refine wpAny_bind (wpAny_holding (wpAny_pure (wpAny_pure ?_)))
  simp only [List.length_cons, List.length_nil, Nat.lt_irrefl, if_false, Nat.zero_add]
  have hl1 : h1.IsList l items := (hl.push _).extBut sb1.extBut hlt
  have W := rest_walks (prog := prog) (w := w) (A := A.in1) s.heap.objs.size l items 1 hh (Ne.symm hlt)
  have lt_of : ∀ {b : Addr} {o : Obj}, h1.get? b = some o → b < h1.objs.size := fun e => Heap.lt_size e
  refine wpAny_bind (wpAny_holding (wpAny_collect_iter (T := "list_iterator") (.inr (.inr (.inl rfl))) W (fun i t st => st.2.1.typeIs) ⟨Nat.zero_le _, hit1, hl1⟩ (fun b hb => ?_) (by simp) (fun t acc mv io => ?_) (by omega)))
  · obtain ⟨o1, a1, _⟩ := hit1
    obtain ⟨o2, a2, _⟩ := hl1
    rcases (by simpa using hb : b = s.heap.objs.size ∨ b = l) with rfl | rfl
    · exact lt_of a1
    · exact lt_of a2
  · have hacc : acc.toList = items.toList.drop 1 := by
      refine List.ext_getElem? fun i => ?_
      rw [List.getElem?_drop, Array.getElem?_toList, Array.getElem?_toList]
      by_cases hi : i < acc.size
      · have e1 : acc[i]? = some acc[i] := by simp [hi]
        rw [e1, io.2 i acc[i] e1]
      · have h2 := io.1
        have e1 : acc[i]? = none := by simp; omega
        have e2 : items[1 + i]? = none := by simp; omega
        rw [e1, e2]
    rw [if_neg (by omega)]
    refine wpAny_bind (wpAny_newObj_type ?_ ?_)
    · have ed : List.drop (acc.toList.length - (2 - 1 - 1)) acc.toList = [] := by simp
      have et : List.take (acc.toList.length - (2 - 1 - 1)) acc.toList = items.toList.drop 1 := by
        rw [← hacc]
        exact List.take_of_length_le (by simp)
      rw [ed, et]
      refine wpAny_pure (hQ t (fun b o e => ?_) mv.gens.symm mv.drawn mv.os)
      have hb : b ≠ s.heap.objs.size := Nat.ne_of_lt (Heap.lt_size e)
      exact mv.heap b o (by simpa using hb) (sb1.extBut b o hb (Heap.get?_push_of_some _ e))
    · show (List.take _ acc.toList).toArray.size ≤ sizeLine
      have h2 := io.1
      rw [List.size_toArray, List.length_take, Array.length_toList]
      omega
end
end JS
/-! J20: a, *b = .. as a target; rpartition; classmethods; a class in a local name; a try that lets nothing out. -/
namespace J
open PySem PySem.Spec
open PyProof.Rows L2
theorem inv_as {X : Cx} {pins : List (Addr × Obj)} {σ : L2.St} {H : Hp} {s t : Shared} (I : Inv X pins σ H s) (h1 : t.heap = s.heap) (h2 : t.os = s.os) (h3 : t.gens = s.gens) : Inv X pins σ H t := by
  refine ⟨I.ok, h2.trans I.os, ?_, ?_, ?_, ?_, I.free, I.freeC, ?_, ?_, I.len⟩
  · rw [h3]; exact I.bare
  · rw [h1]; exact I.base
  · rw [h1]; exact I.loc
  · rw [h1]; exact I.cell
  · rw [h1]; exact I.pin
  · rw [h1]; exact I.hok
section
variable {X : Cx} {ρ ρ1 ρ2 : REnv} {μ μ1 μ2 μ3 : Sto} {a b c e o : Expr} {es tgs : List Expr} {pos p2 p sp apos cpos : Pos} {ds out : List PyData} {d : PyData} {i j : Int} {s t n : Str} {tg t1 t2 : Expr} {P : Out → Prop} {nn : Nat} {rest : List Stmt}
def gStar (t : TGs) : TG := fun v σ H Q => ∃ a x xs, v = .ref a ∧ H a = some (.lst (x :: xs)) ∧ ∀ p, H p = none → t [x, .ref p] σ (upd H p (.lst xs)) Q
theorem pg_star {k : Nat} {t : TGs} (hc : X.calm = true) (h : PGs X [t1, .Starred t2 sp] t) (e2 : (assignEach [t1, .Starred t2 sp] X.env).findIdx? (·.1) = some 1 := by rfl) (e3 : (assignEach [t1, .Starred t2 sp] X.env).length = 2 := by rfl) : PG X (.Tuple [t1, .Starred t2 sp] k pos) (gStar t) := by
  refine ⟨fun pins s σ H v u Q I r hw => ?_⟩
  obtain ⟨a, x, xs, e1, hl, hw⟩ := hw
  subst e1
  cases r
  obtain ⟨its, rv, pl, hz⟩ := I.list (SqL.of hl)
  obtain ⟨x', its', rfl, rx, rxs⟩ : ∃ x' its', its = x' :: its' ∧ RelV x x' ∧ Vals xs its' := by
    cases rv with
    | cons h1 h2 => exact ⟨_, _, rfl, h1, h2⟩
  rw [PyProof.Rows.assign_Tuple]
  refine wpAny_bind (wpAny_standAt ?_)
  unfold unpack
  rw [e2, e3]
  refine wpAny_bind (wpAny_holding (JS.unpack_star (x := x') (I.ok.hd hc) pl.isList (by simp) (by have := rv.length; simp at this hz ⊢; omega) fun t keep gens drawn os => ?_))
  have It : Inv X pins σ H t := inv_as (I.kept (t' := t.toks) keep) rfl os gens
  have hp : H t.heap.objs.size = none := It.hok.fresh (Nat.le_refl _)
  have In : Inv X pins σ (upd H t.heap.objs.size (.lst xs)) { t with heap := t.heap.push { cls := .type "list", data := .seq (its'.toArray) } } := It.laid (t' := t.toks) (fun b u e => Heap.get?_push_of_some _ e) (Nat.le_refl _) ⟨by have := hz; have := rxs.length; simp at *; omega, its', 0, rxs, Heap.get?_push_size _ rfl⟩
  have := h.run pins _ σ _ [x, .ref t.heap.objs.size] [x', .ref t.heap.objs.size] Q In (.cons rx (.cons rfl .nil)) (hw _ hp)
  simpa using this
theorem pgs_star {t : TG} (h : PG X t2 t) : PGs X [.Starred t2 sp] (gCons t gNil) := by
  refine ⟨fun pins s σ H vs us Q I r hw => ?_⟩
  obtain ⟨v, vr, e1, hw⟩ := hw
  subst e1
  cases r with
  | cons r rr =>
    show wpAny _ _ (assignInOrder [assign t2 X.env] _) _ _ _
    refine assignInOrder_cons (thn (h.run pins s σ H _ _ _ I r hw) fun _ s1 ⟨σ1, H1, I1, q1⟩ => ?_)
    exact pgs_nil.run pins s1 σ1 H1 _ _ Q I1 rr q1
theorem GW.star {k : Nat} (h1 : GW X t1 d ρ μ ρ1 μ) (h2 : GW X t2 (.list ds) ρ1 μ ρ2 μ) (hc : X.calm = true := by rfl) (e2 : (assignEach [t1, .Starred t2 sp] X.env).findIdx? (·.1) = some 1 := by rfl) (e3 : (assignEach [t1, .Starred t2 sp] X.env).length = 2 := by rfl)
    (e4 : (assignEach [t1, .Starred t2 sp] X.env).map (·.2) = assign t1 X.env :: (assignEach [.Starred t2 sp] X.env).map (·.2) := by rfl) : GW X (.Tuple [t1, .Starred t2 sp] k pos) (.list (d :: ds)) ρ μ ρ2 μ := by
  intro w σ H v m s hv Q q
  have hv' : Dq (dl H w.all) v (.list (d :: ds)) := hv
  cases hv' with
  | lst ha hd =>
    cases hd with
    | cons hd1 hd2 =>
      rename_i a v1 vs
      refine ⟨_, pg_star hc (pgs_cons (p_gx (e := t1)) (pgs_star (p_gx (e := t2))) e4) e2 e3, ?_⟩
      refine ⟨a, v1, vs, rfl, (dl_some ha).2, fun p hp => ⟨v1, [.ref p], rfl, ?_⟩⟩
      have f0 : Fr w.α H (upd H p (.lst vs)) := Fr.of_same (Same.new hp)
      have hl : Val X.K (upd H p (.lst vs)) w (.ref p) (Ls ds) := val_lst m hp hd2
      refine h1 w σ _ v1 (m.new hp) (s.fr f0) (dq_mono f0.all _ _ hd1) _ fun σ1 H1 m1 f1 s1 => ?_
      refine ⟨.ref p, [], rfl, ?_⟩
      exact h2 w σ1 H1 _ m1 s1 (hl.fr f1) _ fun σ2 H2 m2 f2 s2 => ⟨rfl, q σ2 H2 m2 ((f0.trans f1).trans f2) s2⟩
/-- rpartition -/
theorem mt_rpart : MtR X "str.rpartition" (fun x xs H Q => ∃ a b, x = .str a ∧ xs = [.str b] ∧ (b.length == 0) = false ∧ a.length ≤ sizeLine ∧ ∀ p, H p = none → Q (.ref p) (upd H p (.tup [.str (Txt.rpartition a b).1, .str (Txt.rpartition a b).2.1, .str (Txt.rpartition a b).2.2]))) := by
  intro pins s0 σ H x xs v us Q I rx rs hh
  obtain ⟨aa, bb, e1, e2, hb, hz, hh⟩ := hh
  subst e1
  subst e2
  obtain ⟨ta, rfl⟩ := rx
  obtain ⟨u, rfl, ru⟩ := vals1 rs
  obtain ⟨tb, rfl⟩ := ru
  have M0 := meets_str_rpartition aa bb ta tb hb hz
  refine call_meets (F.slot_str_rpartition) (typeIs_str _ _ _) (F.entry_str_rpartition)
    (F.args_str_rpartition_2 _ _) M0 ?_
  unfold Txt.rpartition at hh
  revert hh
  cases Builtin.Str.lastOccurrence aa bb 0 aa.length with
  | none => exact fun hh => laid_parts I hh
  | some k => exact fun hh => laid_parts I hh
theorem EV.rpart (ho : EV X o ρ μ (Ss s) μ1) (he : EV X e ρ μ1 (Ss t) μ2) (h1 : (t.length == 0) = false) (h2 : s.length ≤ sizeLine)
    (hs : starEach [e] X.env = [(false, eval e X.env)] := by rfl) (hbase : attributeBase o "rpartition" X.env (eval o X.env) = eval o X.env := by rfl) (hline : (apos.endLine == pos.line) = true := by rfl) :
    EV X (.Call (.Attribute o "rpartition" apos) [e] [] pos) ρ μ (Tp [.str (Txt.rpartition s t).1, .str (Txt.rpartition s t).2.1, .str (Txt.rpartition s t).2.2]) μ2 := by
  refine EV.m1 F.slot_str_rpartition F.type_str_rpartition mt_rpart ho he (fun w H u m hu Q q => ?_) hs hbase hline
  cases hu
  exact ⟨_, _, rfl, rfl, h1, h2, new_tup m (.cons (.str _) (.cons (.str _) (.cons (.str _) .nil))) q⟩
end
/-! ### classmethods -/
structure CMth (P : Program) (w : World) (K : PySem.W.Frag) (mg : Str → Option Value) (base : Heap) (C : Addr) (m : Str) (k : Nat) (c : Con) : Prop where
  ex : ∃ mc p g fd, ClX.CRead K C mc ∧ ClX.CMet K C mc m p g ∧ FnOk P w K mg base CX0 k g fd ["cls", "text"] (SpV K ["cls", "text"] c) ∧ Binds K fd ["cls", "text"] [] ∧ KBn K fd ["cls", "text"] 1 ["text"] (fun us ws => us ++ ws) (fun vs zs => vs ++ zs)
section
variable {X : Cx} {ρ : REnv} {μ μ1 μ2 μ3 : Sto} {e o : Expr} {pos p apos kpos : Pos} {n m : Str} {C : Addr} {k : Nat} {cn : Con} {r z : Ent} {mc : Value} {pm g : Addr} {fd : FuncData} {sp : Sp}
theorem run_cmK {pins : List (Addr × Obj)} {σ : L2.St} {H : Hp} {s : Shared} {q : Addr} {Q : VK} {ws : List Value} {zs : List V} {ps ks : List Str} (F : FnOk X.prog X.w X.K X.mg X.base CX0 k g fd ps sp) (hb : KBn X.K fd ps 1 ks (fun us ws => us ++ ws) (fun vs zs => vs ++ zs)) (hr : Room k X.A)
    (I : Inv X ((q, PySem.W.methodObj (.ref g) (.ref C)) :: pins) σ H s) (rz : Vals zs ws) (l2 : zs.length = ks.length) (h : sp (.ref C :: zs) H Q E0) : wpAny (model X.prog X.w) X.A (call (.ref q) [] (ks.zip ws)) (EP X pins σ Q) X.xe s := by
  have rr : Vals (V.ref C :: zs) (Value.ref C :: ws) := .cons rfl rz
  have z0 : wpAny (model X.prog X.w) X.A (call (.ref q) [] (ks.zip ws)) (EP X ((q, PySem.W.methodObj (.ref g) (.ref C)) :: pins) σ Q) X.xe s := by
    refine wpAny_call (PySem.W.method_call (ClX.pin_at I) (codeAny_mono (F.run X.A X.stack s H ⟨[.ref C], ks.zip ws⟩ (.ref C :: ws) (.ref C :: zs) Q E0 hr I.env0 (hb.to s [.ref C] ws I.kIn rfl (rz.length.symm.trans l2)) rr h) fun r s' hq => ?_))
    cases r with
    | error ee => exact pass0 _ σ H s ee s' I hq
    | ok fl =>
      cases fl with
      | ret u => exact I.after hq
      | next => exact hq.elim
      | brk => exact hq.elim
      | cont => exact hq.elim
  exact thn z0 fun _ _ y => ClX.unpinE y
def tCMK (C : Addr) (sp : Sp) (ta : TE) (tk : TA) : TE := fun σ H Q => ta σ H fun x H1 => x = .ref C ∧ tk σ H1 fun zs H2 => zs.length = 1 ∧ sp (.ref C :: zs) H2 Q E0
theorem pe_cmethK {pl : Sem Bool} {ta : TE} {tk : TA} {ps : List Str} {kw : Str} (he : PE X o ta) (rd : ClX.CRead X.K C mc) (c : ClX.CMet X.K C mc m pm g) (F : FnOk X.prog X.w X.K X.mg X.base CX0 k g fd ps sp) (hb : KBn X.K fd ps 1 [kw] (fun us ws => us ++ ws) (fun vs zs => vs ++ zs)) (hr : Room k X.A) (hkw : PK X [⟨some kw, e, kpos⟩] tk)
    (hall : (backToKw pos (keywordEach [⟨some kw, e, kpos⟩] X.env)).all (·.1.isSome) = true := by rfl) (hks : (backToKw pos (keywordEach [⟨some kw, e, kpos⟩] X.env)).filterMap (·.1) = [kw] := by rfl)
    (hpl : ((backTo pos (starEach [] X.env)).any (·.1) || (backToKw pos (keywordEach [⟨some kw, e, kpos⟩] X.env)).any (·.1.isNone)) = false := by rfl)
    (ht : eval (.Call (.Attribute o m apos) [] [⟨some kw, e, kpos⟩] pos) X.env = (do
      let ov ← eval o X.env
      standAt apos.atName
      let (f, first) ← holding [ov] (getMethod ov m pl)
      callWith pos f first (backTo pos (starEach [] X.env)) (backToKw pos (keywordEach [⟨some kw, e, kpos⟩] X.env))) := by rfl) : PE X (.Call (.Attribute o m apos) [] [⟨some kw, e, kpos⟩] pos) (tCMK C sp ta tk) := by
  refine ⟨fun pins s σ H Q I h => ?_⟩
  refine PySem.W.methodCall_KW (pl := pl) (thn (he.run pins s σ H _ I h) fun u s1 ⟨x, H1, I1, rx, ex, q⟩ => ?_) ht
  subst ex
  obtain rfl : u = Value.ref C := rx
  refine ClX.getmethcm_ok I1 rd c fun s2 I2 => ?_
  refine PySem.W.callWith_of (P := PySem.W.MethP X.K s1.heap.objs.size g (.ref C)) hpl (PySem.W.keeps_M c.fi) (evalArgs_kw2_nil hall ?_)
  refine thn (hkw.run pos _ s2 σ H1 _ I2 q) fun ws s3 ⟨zs, H2, I3, rz, l2, q2⟩ => ⟨⟨ClX.pin_at I3, I3.kIn⟩, ?_⟩
  rw [hks]
  exact run_cmK F hb hr I3 rz l2 q2
theorem EV.cmeth {pl : Sem Bool} (M : CMth X.prog X.w X.K X.mg X.base C m k cn) (hm : X.mg n = some (.ref C)) (hr : Room k X.A) (ha : EV X e ρ μ r μ1) (hC : cn [.raw (.ref C), r] μ1 z μ2) (hg : Gl X n := by rfl) (hdb : (n == ("__debug__" : Str)) = false := by decide)
    (hs : starEach [e] X.env = (false, eval e X.env) :: starEach [] X.env := by rfl) (hpl : (backTo pos (starEach [] X.env)).any (·.1) = false := by rfl)
    (ht : eval (.Call (.Attribute (.Name n p) m apos) [e] [] pos) X.env = (do
      let ov ← eval (.Name n p) X.env
      standAt apos.atName
      let (f, first) ← holding [ov] (getMethod ov m pl)
      callWith pos f first (backTo pos (starEach [e] X.env)) (backToKw pos (keywordEach [] X.env))) := by rfl) : EV X (.Call (.Attribute (.Name n p) m apos) [e] [] pos) ρ μ z μ2 := by
  intro w σ H m0 s Q q
  obtain ⟨mc, pm, g, fd, rd, cm, F, bi, _⟩ := M.ex
  refine ⟨_, ClX.pe_cmeth (E := E0) (pe_glob (v := .ref C) hg hm rfl hdb) rd cm (F.raw bi .nil) hr pass0 (pa_cons (p_ex (e := e)) pa_nil hs) hs hpl ht, ?_⟩
  refine ⟨rfl, ?_⟩
  refine ha w σ H m0 s _ fun v H1 m1 f1 h1 => ?_
  exact ⟨w, μ1, [.raw (.ref C), r], z, μ2, m1, .cons (r := .raw (.ref C)) rfl (.cons h1 .nil), rfl, hC, fun t H2 m2 f2 h2 => q t H2 m2 (f1.trans f2) h2⟩
theorem EV.cmethK {pl : Sem Bool} (M : CMth X.prog X.w X.K X.mg X.base C m k cn) (hm : X.mg n = some (.ref C)) (hr : Room k X.A) (ha : EV X e ρ μ r μ1) (hC : cn [.raw (.ref C), r] μ1 z μ2) (hg : Gl X n := by rfl) (hdb : (n == ("__debug__" : Str)) = false := by decide)
    (hall : (backToKw pos (keywordEach [⟨some "text", e, kpos⟩] X.env)).all (·.1.isSome) = true := by rfl) (hks : (backToKw pos (keywordEach [⟨some "text", e, kpos⟩] X.env)).filterMap (·.1) = [("text" : Str)] := by rfl)
    (hpl : ((backTo pos (starEach [] X.env)).any (·.1) || (backToKw pos (keywordEach [⟨some "text", e, kpos⟩] X.env)).any (·.1.isNone)) = false := by rfl)
    (ht : eval (.Call (.Attribute (.Name n p) m apos) [] [⟨some "text", e, kpos⟩] pos) X.env = (do
      let ov ← eval (.Name n p) X.env
      standAt apos.atName
      let (f, first) ← holding [ov] (getMethod ov m pl)
      callWith pos f first (backTo pos (starEach [] X.env)) (backToKw pos (keywordEach [⟨some "text", e, kpos⟩] X.env))) := by rfl) : EV X (.Call (.Attribute (.Name n p) m apos) [] [⟨some "text", e, kpos⟩] pos) ρ μ z μ2 := by
  intro w σ H m0 s Q q
  obtain ⟨mc, pm, g, fd, rd, cm, F, _, bk⟩ := M.ex
  refine ⟨_, pe_cmethK (pe_glob (v := .ref C) hg hm rfl hdb) rd cm F bk hr (pk_cons (p_ex (e := e)) pk_nil) hall hks hpl ht, ?_⟩
  refine ⟨rfl, ?_⟩
  refine ha w σ H m0 s _ fun v H1 m1 f1 h1 => ?_
  exact ⟨rfl, w, μ1, [.raw (.ref C), r], z, μ2, m1, .cons (r := .raw (.ref C)) rfl (.cons h1 .nil), rfl, hC, fun t H2 m2 f2 h2 => q t H2 m2 (f1.trans f2) h2⟩
/-- a class in a local name, called -/
theorem pe_makeL {CX : CXT} {i : Nat} {f : Addr} {ps : List Str} {ds : List Value} {dvs : List V} {E : XK} {es : List Expr} {t : TA} (M : Mk X.K C f) (F : FnOk X.prog X.w X.K X.mg X.base CX k f fd ps sp) (hr : Room (k + 1) X.A) (hN : X.N[i]? = some n) (hv : Vis X.env.scope n) (hb : Binds X.K fd ps ds) (hd : Vals dvs ds) (hx : Passes CX X E)
    (ha : PA X (e :: es) t) (hdb : (n == ("__debug__" : Str)) = false := by decide) (hcd : (n == ("__classdict__" : Str)) = false := by decide) (he : starEach (e :: es) X.env = (false, eval e X.env) :: starEach es X.env := by rfl) (hpl : (backTo pos (starEach es X.env)).any (·.1) = false := by rfl) :
    PE X (.Call (.Name n p) (e :: es) [] pos) (fun σ H Q => σ[i]? = some (some (.ref C)) ∧ tMake C sp dvs E t σ H Q) := by
  refine ⟨fun pins s σ H Q I h => ?_⟩
  obtain ⟨h0, h⟩ := h
  refine wpAny_Call_Name_kw (thn ((pe_var (pos := p) hN hv hdb hcd).run pins s σ H (fun v H1 => v = .ref C ∧ H1 = H) I ⟨.ref C, h0, rfl, rfl⟩) fun u s1 ⟨v, H1, I1, r1, q1⟩ => ?_)
  obtain ⟨rfl, rfl⟩ := q1
  obtain rfl : u = Value.ref C := r1
  refine PySem.W.callWith_K (h₀ := X.base) I.ok.mod.kin M.kp (thn (ha.run pos pins s1 σ _ _ I1 h) fun us s2 ⟨vs, H2, I2, r, q⟩ => ⟨I2.kIn, ?_⟩) he hpl
  exact run_make M F hr hb hd hx I2 r q
theorem EV.makeL {i : Nat} {nb f : Str} {ps : List Str} {G : List PyData → Prop} {gs : List PyData} (M : Mak X.prog X.w X.K X.mg X.base nb C f k ps G) (hr : Room (k + 1) X.A) (h0 : ρ[i]? = some (some (.raw (.ref C)))) (ha : EV X e ρ μ (Tp gs) μ1) (hG : G gs)
    (hN : X.N[i]? = some n := by rfl) (hv : Vis X.env.scope n := by first | exact .inl rfl | exact .inr (.inl rfl) | exact .inr (.inr rfl)) (hs : starEach [e] X.env = (false, eval e X.env) :: starEach [] X.env := by rfl) (hdb : (n == ("__debug__" : Str)) = false := by decide) (hcd : (n == ("__classdict__" : Str)) = false := by decide)
    (hpl : (backTo pos (starEach [] X.env)).any (·.1) = false := by rfl) : EV X (.Call (.Name n p) [e] [] pos) ρ μ (.obj C [(f, .tuple gs)]) μ1 := by
  intro w σ H m s Q q
  obtain ⟨g, fd, F, mk, hm, bi⟩ := M.ex
  refine ⟨_, pe_makeL (E := E0) mk F hr hN hv bi .nil pass0 (pa_cons (p_ex (e := e)) pa_nil hs) hdb hcd hs hpl, ?_⟩
  obtain ⟨v0, hv0, rfl⟩ := s.at_ i _ h0
  refine ⟨hv0, ?_⟩
  refine ha w σ H m s _ fun v H1 m1 f1 h1 => ?_
  intro x dx hx hdx hne
  refine ⟨x, dx, v, wk' w x, μ1, gs, rfl, upd_same, List.mem_cons_self, make_mem m1 hx hdx hne, make_val h1 hx hdx, hG, fun H2 m2 f2 h2 => ⟨rfl, ?_⟩⟩
  exact make_end (Q := Q) (v := v) m1 hx hdx hne (fun u H' mm ff hh => q u H' mm (f1.trans ff) hh) m2 f2 h2
end
/-- a try whose body lets nothing out -/
theorem ST.thru {X : Cx} {W : WX} {n : Nat} {body rest : List Stmt} {hd : ExceptHandler} {hds : List ExceptHandler} {ρ : REnv} {μ : Sto} {P : Out → Prop} {pos : Pos} (h : ST X.nox W n body ρ μ (thenP X W n rest P)) (hrs : ∀ ρ μ C fs, ¬ thenP X W n rest P (.rse ρ μ C fs)) : ST X W n (.Try body (hd :: hds) [] [] pos :: rest) ρ μ P := by
  intro w σ H D hn m s q
  refine ⟨_, pss_cons (ps_try_thru0 (p_sx (X := X.nox) (e := body))) p_sx, ?_⟩
  refine h w σ H _ hn m s fun o ho => ?_
  cases o with
  | nx ρ' μ' =>
    intro β σ' H2 m2 s2 f2 hb
    exact ho (w.add β) σ' H2 D (by simp; omega) m2 s2 fun o ho => Fin.grow (β := β) (q o ho) hn f2 hb
  | ret r μ' => exact q _ ho
  | brk ρ' μ' => exact q _ ho
  | ct ρ' μ' => exact q _ ho
  | rse ρ' μ' C fs => exact (hrs _ _ _ _ ho).elim
end J
/-! J21: != of objects whose class has an __eq__ of its own alone. -/
namespace JN
open PySem PySem.Spec PyProof.Rows
open Builtin
section
variable {prog : Program} {w : World} {A : Around} {E : Value → Shared → Prop} {s : Shared} {K : PySem.W.Frag} {x C f : Addr} {ox : Obj} {od : Option Obj} {b tb : Value}
structure NeC (K : PySem.W.Frag) (C : Addr) : Prop where
  ne : PySem.W.findIn K (.ref C) "__ne__" = some (some (.builtin "object.__ne__"))
  sub : PySem.W.subIn K (.ref C) (.type "object") = some true
theorem special_ne {M : Model} {Q : Option Value → Shared → Prop} (X : K.In s.heap) (I : PySem.W.InstAt s.heap x ox C od) (N : NeC K C)
    (h : wpAny M A (call (.builtin "object.__ne__") [.ref x, b]) (fun v => Q (some v)) E s) : wpAny M A (callSpecialIfBound? (.ref x) "__ne__" [b]) Q E s := by
  simp only [callSpecialIfBound?, bindSpecialIfBound?]
  refine wpAny_holding ?_
  refine wpAny_bind (wpAny_bind (wpAny_bind ?_))
  refine I.type.here ?_
  refine (PySem.W.looks_findIn X N.ne).here ?_
  simp only [PySem.F.cmp_object.ne.bind]
  refine wpAny_bind (wpAny_askSetting (wpAny_ite ?_))
  have fin : wpAny M A (call (.builtin "object.__ne__") ([.ref x] ++ [b]) >>= fun v => pure (some v)) Q E s := by
    refine wpAny_bind (wpAny_mono h ?_ fun _ _ z => z)
    exact fun v t z => wpAny_pure z
  split
  · exact wpAny_bind (wpAny_pure (wpAny_pure fin))
  · refine wpAny_tryCatch ?_
    exact wpAny_bind (wpAny_pure (wpAny_pure fin))
theorem check_ne {M : Model} {Q : Unit → Shared → Prop} (X : K.In s.heap) (I : PySem.W.InstAt s.heap x ox C od) (N : NeC K C) (hq : Q () s) : wpAny M A (checkBuiltinCall "object.__ne__" ⟨[.ref x, b], []⟩) Q E s := by
  simp only [checkBuiltinCall, PySem.F.cmpKind_ne, PySem.F.cmpSplit_ne]
  refine wpAny_bind ?_
  unfold isInstance
  refine wpAny_bind (I.type.here ?_)
  refine (PySem.W.looks_subIn X N.sub).here ?_
  simp only [if_true, Bool.not_true, Bool.false_eq_true, if_false]
  have ha := PySem.F.cmpArgs_ne (.ref x) b
  unfold argsOk at ha
  cases hsig : Manifest.signature? "object.__ne__" with
  | none => exact wpAny_pure hq
  | some sig =>
    rw [hsig] at ha
    have h2 : Bind.checkArgs "object.__ne__" sig ⟨[.ref x, b], []⟩ = pure () := ha
    show wpAny M A (Bind.checkArgs "object.__ne__" sig ⟨[.ref x, b], []⟩) Q E _
    rw [h2]
    exact wpAny_pure hq
theorem entry_ne (hu : A.units < PySem.cLine) (X : K.In s.heap) (I : PySem.W.InstAt s.heap x ox C od) (hs : PySem.W.findIn K (.ref C) "__eq__" = some (some (.ref f))) (hf : PySem.W.isFn K (.ref f) = true) {Q : Fin → Shared → Prop}
    (h : wpAny (model prog w) A (call (.ref f) [.ref x, b]) (fun v s' => ∃ k, v = .bool k ∧ Q (.done (.ret (.bool (!k)))) s') E s) : wpAny (model prog w) A (Builtin.«object.__ne__» ⟨[.ref x, b], []⟩) Q E s := by
  unfold Builtin.«object.__ne__»
  repeat (first
    | with_reducible refine wpAny_cRoomFor hu ?_
    | (refine wpAny_bind (m := callSpecialIfBound? (.ref x) (Str.ofString "__eq__") [b]) (PySem.W.ifBound_K X I hs hf (wpAny_mono h (fun r s' hr => by
          obtain ⟨kk, rfl, hq⟩ := hr
          repeat (first | exact hq | exact wpAny_pure hq | exact wpAny_truthy_bool hq | (refine wpAny_bind (m := truthy (.bool _)) (wpAny_truthy_bool ?_)) | wp_step)) fun _ _ z => z)))
    | wp_step)
/-- a != b, a such an object: the not of what its __eq__ answers -/
theorem ne_cmp {h₀ : Heap} {L : Addr} {m : Str → Option Value} {Q : Value → Shared → Prop} (hu : A.units + 1 < PySem.cLine) (F : PyProof.Rows.Fr h₀ L s.heap m) (X₀ : K.In h₀) (I : PySem.W.InstAt s.heap x ox C od) (hb : PySem.W.Looks (model prog w) s.heap (typeOf b) tb) (hn : PySem.W.notFirst K C tb = true) (N : NeC K C)
    (hs : PySem.W.findIn K (.ref C) "__eq__" = some (some (.ref f))) (hf : PySem.W.isFn K (.ref f) = true)
    (h : wpAny (model prog w) A.in1 (call (.ref f) [.ref x, b]) (fun v s' => ∃ k, v = .bool k ∧ Q (.bool (!k)) s') E s) : wpAny (model prog w) A (richCompare .NotEq (.ref x) b) Q E s := by
  have X := X₀.keeps F.keep
  have one : wpAny (model prog w) A (tryCompare (.ref x) "__ne__" b) (fun r s' => ∃ v, r = some v ∧ Q v s') E s := by
    unfold tryCompare
    refine wpAny_bind (special_ne X I N ?_)
    refine wpAny_call (codeAny_call_builtin PySem.F.cmp_object.ne.plain PySem.F.cmpEntry_ne (check_ne X I N ?_))
    refine entry_ne (A := A.in1) (by show A.units + 1 < PySem.cLine; exact hu) X I hs hf (wpAny_mono h (fun v t z => ?_) fun _ _ z => z)
    obtain ⟨k, rfl, hq⟩ := z
    first
      | exact ⟨k, rfl, wpAny_pure ⟨_, rfl, hq⟩⟩
      | exact ⟨k, rfl, wpAny_pure (wpAny_pure ⟨_, rfl, hq⟩)⟩
      | exact ⟨k, rfl, ⟨_, rfl, hq⟩⟩
  unfold richCompare
  simp only [oneThing_ref]
  refine wpAny_holding ?_
  refine wpAny_bind (wpAny_cRoomFor (Nat.lt_of_succ_lt hu) ?_)
  rw [cmpInfo_NotEq]
  dsimp only
  refine wpAny_bind (I.type.here ?_)
  refine wpAny_bind (hb.here ?_)
  have fin : ∀ {r : Option Value} {s' : Shared}, (∃ v, r = some v ∧ Q v s') → ∃ v, r = some v ∧ Q v s' := fun z => z
  split
  · rename_i q
    have e : PySem.W.subIn K tb (.ref C) = some false := by
      rcases Bool.or_eq_true_iff.mp hn with e | e
      · rw [beq_iff_eq.mp e] at q
        simp at q
      · exact beq_iff_eq.mp e
    refine wpAny_bind ((PySem.W.looks_subIn X e).here ?_)
    simp only [Bool.false_eq_true, if_false]
    refine wpAny_bind (wpAny_mono one (fun r s' z => ?_) fun _ _ z => z)
    obtain ⟨v, rfl, hq⟩ := z
    exact wpAny_pure hq
  · refine wpAny_bind (wpAny_pure ?_)
    simp only [Bool.false_eq_true, if_false]
    refine wpAny_bind (wpAny_mono one (fun r s' z => ?_) fun _ _ z => z)
    obtain ⟨v, rfl, hq⟩ := z
    exact wpAny_pure hq
end
end JN
namespace J
open PySem PySem.Spec
open PyProof.Rows L2
section
variable {X : Cx} {ρ : REnv} {μ μ1 μ2 μ3 : Sto} {a b o : Expr} {pos p p2 : Pos} {C : Addr} {fs gs : List (Str × PyData)} {k : Nat} {cn : Con} {n : Str}
def rNeO (C : Addr) (sp : Sp) : R2 := fun x y H Q => ∃ c d dx dy fs gs, x = .ref c ∧ y = .ref d ∧ H c = some (.ins C dx fs) ∧ H d = some (.ins C dy gs) ∧ sp [.ref c, .ref d] H (fun v H' => ∃ kk, v = .bl kk ∧ Q (.bl (!kk)) H') E0
theorem op_neO {f : Addr} {fd : FuncData} {sp : Sp} (F : FnOk X.prog X.w X.K X.mg X.base CX0 k f fd ["self", "other"] sp) (h1 : PySem.W.findIn X.K (.ref C) "__eq__" = some (some (.ref f))) (h2 : PySem.W.isFn X.K (.ref f) = true) (bi : Binds X.K fd ["self", "other"] []) (hr : Room (k + 1) X.A) (N : JN.NeC X.K C) : OpR X (compareOp .NotEq) (rNeO C sp) := by
  intro pins s σ H x y v u Q I rx ry hq
  obtain ⟨c, d, dx, dy, fs, gs, rfl, rfl, hc, hd, hsp⟩ := hq
  obtain rfl : v = Value.ref c := rx
  obtain rfl : u = Value.ref d := ry
  obtain ⟨oc, J1⟩ := ins_at I hc
  obtain ⟨od, J2⟩ := ins_at I hd
  obtain ⟨mm, Fr0⟩ := I.fr
  show wpAny (model X.prog X.w) X.A (richCompare .NotEq (.ref c) (.ref d)) (EP X pins σ Q) X.xe s
  refine JN.ne_cmp (tb := .ref C) (by have := hr.un; show X.A.units + 1 < PySem.cLine; omega) Fr0 I.mod.kin J1 J2.type (by simp [PySem.W.notFirst]) N h1 h2 (own_run2 F (Room.in1 hr) I.ok.frames bi I hsp fun u t z => ?_)
  obtain ⟨z1, H', I', r1, kk, rfl, hq⟩ := z
  obtain rfl : u = Value.bool kk := r1
  exact ⟨kk, rfl, .bl (!kk), H', I', rfl, hq⟩
theorem r2_neO {kk : Bool} (hC : cn [.obj C fs, .obj C gs] μ (Bb kk) μ) {K : PySem.W.Frag} : R2V K (rNeO C (SpV K ["self", "other"] cn)) (.obj C fs) (.obj C gs) (Bb (!kk)) μ := by
  intro w H v u m h1 h2 Q q
  have h1' := h1
  have h2' := h2
  obtain ⟨x, dx, ws, rfl, hx, hn, hd⟩ := h1
  obtain ⟨y, dy, us, rfl, hy, hm, he⟩ := h2
  refine ⟨x, y, dx, dy, ws, us, rfl, rfl, (dl_some hx).2, (dl_some hy).2, w, μ, _, _, _, m, .cons h1' (.cons h2' .nil), rfl, hC, fun t H' m' f' ht => ?_⟩
  cases ht
  exact ⟨kk, rfl, q _ H' m' f' (Dq.bl _)⟩
theorem cNeO {kk : Bool} (M : OwnB X.prog X.w X.K X.mg X.base C "__eq__" k cn) (N : JN.NeC X.K C) (hr : Room (k + 1) X.A) (ha : EV X a ρ μ (.obj C fs) μ1) (hb : EV X b ρ μ1 (.obj C gs) μ2) (hC : cn [.obj C fs, .obj C gs] μ2 (Bb kk) μ2) : EV X (.Compare a [.NotEq] [b] pos) ρ μ (Bb (!kk)) μ2 := by
  obtain ⟨f, fd, F, h1, h2, bi⟩ := M.ex
  exact ha.cmp (op_neO F h1 h2 bi hr N) (nomark _) hb (r2_neO hC)
theorem tEqO {kk : Bool} (M : OwnB X.prog X.w X.K X.mg X.base C "__eq__" k cn) (hr : Room k X.A) (ha : EV X a ρ μ (.obj C fs) μ1) (hb : EV X b ρ μ1 (.obj C gs) μ2) (hC : cn [.obj C fs, .obj C gs] μ2 (Bb kk) μ2) : TV X (.Compare a [.Eq] [b] pos) ρ μ kk μ2 := by
  obtain ⟨f, fd, F, h1, h2, bi⟩ := M.ex
  exact TV.cmp (op_eqO F h1 h2 bi hr) (nomark _) ha hb (r2_eqO hC)
theorem tNeO {kk : Bool} (M : OwnB X.prog X.w X.K X.mg X.base C "__eq__" k cn) (N : JN.NeC X.K C) (hr : Room (k + 1) X.A) (ha : EV X a ρ μ (.obj C fs) μ1) (hb : EV X b ρ μ1 (.obj C gs) μ2) (hC : cn [.obj C fs, .obj C gs] μ2 (Bb kk) μ2) : TV X (.Compare a [.NotEq] [b] pos) ρ μ (!kk) μ2 := by
  obtain ⟨f, fd, F, h1, h2, bi⟩ := M.ex
  exact TV.cmp (op_neO F h1 h2 bi hr N) (nomark _) ha hb (r2_neO hC)
end
end J
/-! J22: promises that leave open what the lists hold in the end. -/
namespace J
open PySem PySem.Spec
open PyProof.Rows L2
abbrev ConP := List Ent → Sto → (Ent → Sto → Prop) → Prop
def SpP (K : PySem.W.Frag) (ps : List Str) (C : ConP) : Sp := fun vs H Q _ => ∃ w μ rs Φ, Mem K H w μ ∧ Vas K H w vs rs ∧ rs.length = ps.length ∧ C rs μ Φ ∧ ∀ r μ' v H', Φ r μ' → Mem K H' w μ' → Fr w.α H H' → Val K H' w v r → Q v H'
structure CalGP (P : Program) (w : World) (K : PySem.W.Frag) (mg : Str → Option Value) (base : Heap) (n : Str) (k : Nat) (ps : List Str) (C : ConP) : Prop where
  ex : ∃ f fd, FnG P w K mg base k f fd ps (SpP K ps C) ∧ mg n = some (.ref f) ∧ PySem.W.keepIn K (.ref f) = true ∧ Binds K fd ps []
def PostP (Φ : Ent → Sto → Prop) : Out → Prop
  | .ret r μ' => Φ r μ'
  | _ => False
theorem ST.retQ {X : Cx} {W : WX} {n : Nat} {ρ : REnv} {μ ν : Sto} {e : Expr} {sts : List Stmt} {pos : Pos} {r : Ent} {Φ : Ent → Sto → Prop} (h : EV X e ρ μ r ν) (hΦ : Φ (frz n ν r) (ν.take n)) : ST X W n (.Return (some e) pos :: sts) ρ μ (PostP Φ) := ST.ret h hΦ
section
variable {w : World} {P : Program} {K : PySem.W.Frag} {base : Heap} {mg : Str → Option Value}
theorem Df.calGP {x : Str} {st : Stmt} {N ps : List Str} {k : Nat} {C : ConP} (D : Df K mg x st) (Sc : FnScope N ps (defScope st))
    (hb : ∀ (kV doc pm : Value) (an : Option Addr) (cdv ct : Value) (us : List Value), us.length = ps.length → bindArgs (PySem.W.fnOf x x (defArgs st) (defBody st) (defScope st) .none kV doc pm an cdv ct) ⟨us, []⟩ = pure (ps.zip us))
    (hN : ps.length ≤ N.length)
    (body : ∀ (f : Addr) (cdv : Value) (A : Around) (outer : List Env) (s : Shared) (H : Hp) (E : XK), A.guards = some [] → Room k (A.deeper (envOfC x (defScope st) s.heap.objs.size f cdv)) → ∀ rs μ Φ, C rs μ Φ →
      ST (cxOf CX0 P w K mg base N x (defScope st) f cdv A outer s H E).nox W0 μ.length (defBody st) (rs.map some ++ List.replicate (N.length - rs.length) none) μ (PostP Φ)) : CalGP P w K mg base x (k + 1) ps C := by
  obtain ⟨f, fd, F, hm⟩ := D.ex
  refine ⟨f, fd, funG F Sc (fun xs G R E h => ?_) (fun cdv B o t G xs R E hgd room h => ?_), hm, F.kp, F.binds hb⟩
  · obtain ⟨w0, μ, rs, Φ, _, hv, hl, _⟩ := h
    exact hv.1.trans hl
  · obtain ⟨w0, μ, rs, Φ, m, hv, hl, hC, q⟩ := h
    refine body f cdv B o t G E hgd room rs μ Φ hC w0 _ G _ (Nat.le_of_eq m.len.symm) m (sl_start hv (by omega)) fun oo ho => ?_
    have hw : w0.cut μ.length = w0 := by
      show (⟨w0.α.take μ.length, w0.ξ⟩ : Wd) = w0
      rw [← m.len, List.take_length]
    match oo, ho with
    | .ret r2 μ2, ho =>
      intro v G' m' f' hv'
      rw [hw] at m' hv'
      exact q r2 μ2 v G' ho m' f' hv'
end
section
variable {X : Cx} {ρ : REnv} {μ μ1 μ2 : Sto} {e : Expr} {es : List Expr} {pos p : Pos} {rs : List Ent} {xs : List PyData} {n : Str} {k : Nat} {ps : List Str}
/-- f(a new list) -/
theorem EV.callNewP {C : ConP} {b : Bool} {x1 : Str} {Φ : Ent → Sto → Prop} (F : CalGP X.prog X.w X.K X.mg X.base n k [x1] C) (hgd : X.A.guards = some []) (hr : Room k X.A) (ha : EVF X e ρ μ xs μ1) (hC : C [.ptr μ1.length] (μ1 ++ [xs]) Φ) (hΦ : ∀ r μ', Φ r μ' → r = Bb b ∧ ∃ ys, μ' = μ1 ++ [ys])
    (hg : Gl X n := by rfl) (hdb : (n == ("__debug__" : Str)) = false := by decide) (he : starEach [e] X.env = (false, eval e X.env) :: starEach [] X.env := by rfl) (hpl : (backTo pos (starEach [] X.env)).any (·.1) = false := by rfl) :
    EV X (.Call (.Name n p) [e] [] pos) ρ μ (Bb b) μ1 := by
  intro w σ H m s Q q
  obtain ⟨f, fd, G, hm, hk, hb⟩ := F.ex
  refine ⟨tCall (SpP X.K [x1] C) [] E0 (tCons (EX X e) tNil), ⟨fun pins s0 σ0 H0 Q0 I h => ?_⟩, ?_⟩
  · refine wpAny_Call_Name_kw (ld_glob I hg hm ?_ hdb)
    refine PySem.W.callWith_K (h₀ := X.base) I.ok.mod.kin hk (thn ((pa_cons (p_ex (e := e)) pa_nil he).run pos pins s0 σ0 H0 _ I h) fun us s1 ⟨vs, H1, I1, r, z⟩ => ⟨I1.kIn, ?_⟩) he hpl
    have z' : SpP X.K [x1] C (vs ++ []) H1 Q0 E0 := z
    rw [List.append_nil] at z'
    exact runG G hgd hr hb I1 r z'
  · refine ha w σ H m s _ fun p0 H1 us m1 f1 hp e1 hd => ?_
    have hx : p0 ∉ w.ξ := fun z => m.freshN hp (List.mem_append_right _ z)
    have hl1 : w.α.length = μ1.length := m1.len
    have hw : (w.add [p0]).cut w.α.length = w := by
      rw [take_add (Nat.le_refl _)]
      show (⟨w.α.take w.α.length, w.ξ⟩ : Wd) = w
      rw [List.take_length]
    refine ⟨w.add [p0], μ1 ++ [xs], [.ptr μ1.length], Φ, m1.adopt hx e1 hd, .cons ⟨p0, ?_, rfl⟩ .nil, rfl, hC, fun r μ' v H2 hr2 m2 f2 h2 => ?_⟩
    · rw [List.getElem?_append_right (by omega), hl1]
      simp
    · obtain ⟨rfl, ys, rfl⟩ := hΦ r μ' hr2
      have mm := m2.cut w.α.length
      rw [hw, hl1, List.take_left] at mm
      cases h2
      refine q _ H2 mm (fun c o hc hn nt => f2 c o (f1 c o hc hn nt) (fun z => ?_) nt) (Dq.bl b)
      rcases List.mem_append.mp z with z | z
      · exact hn z
      · have : c = p0 := by simpa using z
        exact hp o (this ▸ hc) nt
end
end J
/-! J40: exceptions of the program's own whose context is None. -/
namespace J
open PySem PySem.Spec
open PyProof.Rows L2
section
variable {X : Cx} {e : Expr} {es : List Expr} {ta : TA} {p pos : Pos}
/-- C(e, ..): its context is None -/
theorem pmk_oexN {Y : CXT} {x : Str} {C gI : Addr} {k : Nat} {fd : FuncData} {ps : List Str} {sp : Sp} (O : OexC X.K C) (hi : PySem.W.findIn X.K (.ref C) "__init__" = some (some (.ref gI))) (ht : PySem.W.typeIn X.K (.ref gI) = some (.type "function"))
    (Fn : FnOk X.prog X.w X.K X.mg X.base Y k gI fd ps sp) (room : Room (k + 1) X.A) (bi : Binds X.K fd ps []) (pass : Passes Y X (fun _ _ _ => False)) (glob : Gl X x) (mean : X.mg x = some (.ref C)) (args : PA X (e :: es) ta)
    (ndb : (x == ("__debug__" : Str)) = false := by decide) (st : starEach (e :: es) X.env = (false, eval e X.env) :: starEach es X.env := by rfl) (pl : (backTo pos (starEach es X.env)).any (·.1) = false := by rfl) :
    L2N.PMk X (.Call (.Name x p) (e :: es) [] pos) (tMkO C sp [] ta) := by
  intro pins s0 σ0 H0 Q J hh
  obtain ⟨c1, c2, c3, c4, c5, c6, c7, c8, c9, c10, c11, c12, c13, c14, c15, look, refs⟩ := O.cls
  refine wpAny_Call_Name_kw (ld_glob J glob mean ?_ ndb)
  refine PySem.W.callWith_K (h₀ := X.base) J.ok.mod.kin O.kC (thn (args.run pos pins s0 σ0 H0 _ J hh) fun vals t1 ⟨ws, G, J1, rel, _, want⟩ => ⟨J1.kIn, ?_⟩) st pl
  show wpAny _ _ (call (.ref C) vals) _ _ _
  obtain ⟨h1, gn, dw, tok, sys⟩ := t1
  have le1 : h1.objs.size ≤ h1.objs.size + 1 := Nat.le_succ _
  have want1 := want (h1.objs.size + 1) (J1.hok.fresh le1)
  rw [List.append_nil] at want1
  have keep1 : ∀ b u, h1.get? b = some u → ((h1.push (PySem.W.kdv_tup vals)).push (PySem.HandSPX.excO C h1.objs.size)).get? b = some u := fun b u z => Heap.get?_push_of_some _ (Heap.get?_push_of_some _ z)
  have made : ((h1.push (PySem.W.kdv_tup vals)).push (PySem.HandSPX.excO C h1.objs.size)).get? (h1.objs.size + 1) = some (PySem.HandSPX.excO C h1.objs.size) := by heap_get
  have J2 : Inv X pins σ0 (upd G (h1.objs.size + 1) (exo (h1.objs.size + 1) C none)) ⟨(h1.push (PySem.W.kdv_tup vals)).push (PySem.HandSPX.excO C h1.objs.size), gn, dw, tok, sys⟩ :=
    J1.laid (o := exo (h1.objs.size + 1) C none) (a := h1.objs.size + 1) (t' := tok) (h' := (h1.push (PySem.W.kdv_tup vals)).push (PySem.HandSPX.excO C h1.objs.size)) keep1 le1 (exo_ok made)
  have rel2 : Vals (V.ref (h1.objs.size + 1) :: ws) (Value.ref (h1.objs.size + 1) :: vals) := .cons rfl rel
  have many : (Value.ref (h1.objs.size + 1) :: vals ++ []).length = ps.length := by
    have z := rel2.length
    rw [Fn.len _ _ _ _ want1] at z
    rw [List.append_nil]
    exact z.symm
  have small : vals.length ≤ sizeLine := by
    rw [← Paired.length rel, sizeLine_eq]
    omega
  have bind2 := bi _ (Value.ref (h1.objs.size + 1) :: vals) J2.kIn many
  rw [List.append_nil] at bind2
  refine wpAny_call (PySem.HandSPX.call_own PySem.F.excBase_ValueError (fun Z => PySem.HandSPX.refsVE_contains Z c5 refs) (J1.kIn _ _ look) (PySem.W.looks_findIn J1.kIn hi) (fun self => PySem.W.bind_fn J1.kIn self ht) small
    (codeAny_mono (Fn.run _ X.stack _ _ ⟨Value.ref (h1.objs.size + 1) :: vals, []⟩ (Value.ref (h1.objs.size + 1) :: vals) _ _ (fun _ _ _ => False) (room.make C vals []) (J2.env0.make C vals []) bind2 rel2 want1) fun r t3 got => ?_))
  match r, got with
  | .error er, got => exact pass pins σ0 _ _ er t3 J2 got
  | .ok (.ret u), got =>
    obtain ⟨v, G2, os2, ag2, un2, ok2, rv, ev, dd, fs, ea, ed, free, q2⟩ := got
    subst ev
    obtain ⟨h2, gn2, dw2, tok2, sys2⟩ := t3
    obtain ⟨t0, G3, J3, k3, ne3, oe3, na3⟩ := mk_end0 (d2 := dw2) (t2 := tok2) J1 le1 keep1 un2 ok2 os2 ag2 ea ed free
    refine ⟨rv, h1.objs.size + 1, _, _, ⟨G3, gn2, dw2, tok2, sys2⟩, _, .ref C, some dd, rfl, J3, k3, ne3, oe3, ⟨rfl, rfl, fun vs z => ?_⟩, rfl, rfl, na3, rfl, ag2, raises_own O.exC O.tyC, q2⟩
    cases z
    rfl
end
theorem sky_zc {B : Heap} {l : List Env} {a L : Addr} {cls : Value} {d : Option Addr} {h : Heap} (s : Sky B l a (L2N.Zn cls d) L h) : Sky B l a (Zc cls d) L h := by
  rcases s with ⟨q1, q2, q3, oe, vs, q4, q5, q6⟩ | s | s
  · exact .inl ⟨q1, q2, q3, oe, vs, q4, q5.zc, q6⟩
  · exact .inr (.inl (L2H.flyingZ_imp (fun o z => z.zc) s))
  · exact .inr (.inr ⟨s.1, s.2.1, s.2.2.1, L2H.tracedZ_imp (fun o z => z.zc) s.2.2.2⟩)
theorem okXN {P : Program} {w : World} {K : PySem.W.Frag} {mg : Str → Option Value} {base : Heap} {x qual : Str} {st : Stmt} {f : Addr} {fd : FuncData} {N ps : List Str} {k : Nat} {sp : Sp} (F : Fun K x qual st f fd) (Sc : FnScope N ps (defScope st)) (many : ∀ vs H Q E, sp vs H Q E → vs.length = ps.length)
    (bd : ∀ (cdv : Value) (A : Around) (outer : List Env) (s : Shared) (H : Hp) (vs : List V) (Q : VK) (E : XK), Room k (A.deeper (envOfC qual (defScope st) s.heap.objs.size f cdv)) → sp vs H Q E →
      ∃ T, PSs (cxOf (L2N.CX P w) P w K mg base N qual (defScope st) f cdv A outer s H E) (defBody st) T ∧ T { nx := fun _ G => Q .non G, rt := Q } (start N vs) H) : FnOk P w K mg base (L2N.CX P w) (k + 1) f fd ps sp := by
  obtain ⟨oc, od, kV, doc, pm, an, cdv, ct, osl, rfl, lk, hcd⟩ := F.ex
  exact fn_of lk hcd Sc many fun A outer s H vs Q E room want => bd cdv A outer s H vs Q E room want
/-- where any exception may go, one whose context is None may -/
theorem takesN {X : Cx} {W : WX} (tk : L2.Takes X W) : L2N.Takes X W := by
  intro u s' h
  obtain ⟨a, B, sI, pins, σ, H, cls, d, e, I, nb, up, sky, h⟩ := h
  exact tk u s' ⟨a, B, sI, pins, σ, H, cls, d, e, I, nb, up, sky_zc sky, h⟩
end J
/-! J23: ways out by an exception: what is raised, by data. -/
namespace J
open PySem PySem.Spec
open PyProof.Rows L2
/-- what a piece comes to: a value, or an exception of the class at C with these fields -/
inductive Res where
  | ok (r : Ent) (μ : Sto)
  | rse (C : Addr) (fs : List (Str × PyData)) (μ : Sto)
def EndR (K : PySem.W.Frag) (w : Wd) (H : Hp) (σ : L2.St) (W : WX) (Q : VK) : Res → Prop
  | .ok r μ' => ∀ v H', Mem K H' w μ' → Fr w.α H H' → Val K H' w v r → Q v H'
  | .rse C fs μ' => ∀ od H', Mem K H' w μ' → Fr w.α H H' → Xd H' w od fs → W (.ref C) od σ H'
def EVR (X : Cx) (W : WX) (e : Expr) (ρ : REnv) (μ : Sto) (o : Res) : Prop := ∀ w σ H, Mem X.K H w μ → Sl X.K H w σ ρ → ∀ Q : VK, EndR X.K w H σ W Q o → EX X e σ H Q
section
variable {X : Cx} {W : WX} {ρ : REnv} {μ μ1 μ2 : Sto} {e c : Expr} {es : List Expr} {pos p p' : Pos} {rs : List Ent} {r : Ent} {o : Res} {n x : Str} {k nn : Nat} {ps : List Str} {C : Addr} {fs : List (Str × PyData)} {P : Out → Prop} {rest : List Stmt}
theorem EVR.of (h : EV X e ρ μ r μ1) : EVR X W e ρ μ (.ok r μ1) := fun w σ H m s Q q => h w σ H m s Q q
theorem EVR.ev (h : EVR X W e ρ μ (.ok r μ1)) : EV X e ρ μ r μ1 := fun w σ H m s Q q => h w σ H m s Q q
theorem Xd.sub {H : Hp} {w w' : Wd} {od : Option Addr} (h : Xd H w od fs) (g : ∀ b ∈ w'.all, b ∈ w.all) : Xd H w' od fs := by
  cases od with
  | none => exact h
  | some d =>
    obtain ⟨ws, e, nd, hn, hd⟩ := h
    exact ⟨ws, e, fun z => nd (g d z), hn, dqAll_mono (dl_sub g) _ _ hd⟩
theorem Fin.rse0 {w : Wd} {H H1 : Hp} {D : Ends} {n : Nat} {σ : L2.St} {od : Option Addr} (q : Fin X W n w H D (.rse ρ μ1 C fs)) (m : Mem X.K H1 w μ1) (s : Sl X.K H1 w σ ρ) (f : Fr w.α H H1) (hx : Xd H1 w od fs) : W (.ref C) od σ H1 := by
  have := q od [] σ H1 (by rw [add_nil]; exact m) (by rw [add_nil]; exact s) f (fun b hb => absurd hb (by simp))
  rw [add_nil] at this
  exact this hx
/-- what follows, by what comes -/
def afterR (o : Res) (f : Ent → Sto → Prop) (g : Addr → List (Str × PyData) → Sto → Prop) : Prop := match o with
  | .ok r μ => f r μ
  | .rse C fs μ => g C fs μ
theorem ST.exprR (h : EVR X W e ρ μ o) (hr : afterR o (fun _ μ1 => ST X W nn rest ρ μ1 P) fun C fs μ1 => P (.rse ρ μ1 C fs)) (hs : swapsWith e none pos.line X.env = pure false := by rfl) : ST X W nn (.Expr e pos :: rest) ρ μ P := by
  intro w σ H D hn m s q
  refine ⟨_, pss_cons (ps_expr (p_ex (e := e)) hs) p_sx, ?_⟩
  refine h w σ H m s _ ?_
  cases o with
  | ok r μ1 => exact fun v H1 m1 f1 hv => hr w σ H1 D hn m1 (s.fr f1) fun o ho => (q o ho).step hn f1
  | rse C fs μ1 => exact fun od H1 m1 f1 hx => Fin.rse0 (q _ hr) m1 (s.fr f1) f1 hx
theorem ST.setR {i : Nat} (h : EVR X W e ρ μ o) (hN : X.N.Nodup) (hi : X.N[i]? = some x) (hx : Loc X.env.scope x) (hr : afterR o (fun r μ1 => ST X W nn rest (ρ.set i (some r)) μ1 P) fun C fs μ1 => P (.rse ρ μ1 C fs)) (hs : swapsWith e (some (.Name x p')) pos.line X.env = pure false := by rfl)
    (hf : X.fn x = true ∨ X.env.scope.names.lookup x = some .local := by first | exact .inl rfl | exact .inr rfl | assumption) : ST X W nn (.Assign [.Name x p'] e pos :: rest) ρ μ P := by
  intro w σ H D hn m s q
  refine ⟨_, pss_cons (ps_set hN hi hx (p_ex (e := e)) hs hf) p_sx, ?_⟩
  refine h w σ H m s _ ?_
  cases o with
  | ok r μ1 => exact fun v H1 m1 f1 h1 => hr w _ H1 D hn m1 ((s.fr f1).set h1) fun o ho => (q o ho).step hn f1
  | rse C fs μ1 => exact fun od H1 m1 f1 hx => Fin.rse0 (q _ hr) m1 (s.fr f1) f1 hx
theorem ST.retR (h : EVR X W e ρ μ o) (hr : afterR o (fun r μ1 => P (.ret (frz nn μ1 r) (μ1.take nn))) fun C fs μ1 => P (.rse ρ μ1 C fs)) : ST X W nn (.Return (some e) pos :: rest) ρ μ P := by
  intro w σ H D hn m s q
  refine ⟨_, pss_cons (ps_ret (p_ex (e := e))) pss_never, ?_⟩
  refine h w σ H m s _ ?_
  cases o with
  | ok r μ1 => exact fun v H1 m1 f1 hv => q _ hr v H1 (m1.cut nn) f1 (val_frz m1 hv)
  | rse C fs μ1 => exact fun od H1 m1 f1 hx => Fin.rse0 (q _ hr) m1 (s.fr f1) f1 hx
end
/-! ### defs that may raise -/
abbrev ConX := List Ent → Sto → Res → Prop
def EndX (K : PySem.W.Frag) (w : Wd) (H : Hp) (Q : VK) (E : XK) : Res → Prop
  | .ok r μ' => ∀ v H', Mem K H' w μ' → Fr w.α H H' → Val K H' w v r → Q v H'
  | .rse C fs μ' => ∀ od H', Mem K H' w μ' → Fr w.α H H' → Xd H' w od fs → E (.ref C) od H'
def SpX (K : PySem.W.Frag) (ps : List Str) (C : ConX) : Sp := fun vs H Q E => ∃ w μ rs o, Mem K H w μ ∧ Vas K H w vs rs ∧ rs.length = ps.length ∧ C rs μ o ∧ EndX K w H Q E o
structure CalX (P : Program) (w : World) (K : PySem.W.Frag) (mg : Str → Option Value) (base : Heap) (n : Str) (k : Nat) (ps : List Str) (C : ConX) : Prop where
  ex : ∃ f fd, FnOk P w K mg base (L2N.CX P w) k f fd ps (SpX K ps C) ∧ mg n = some (.ref f) ∧ PySem.W.keepIn K (.ref f) = true ∧ Binds K fd ps []
def PostX (n : Nat) (o : Res) : Out → Prop
  | .ret r μ' => o = .ok r μ'
  | .rse _ μ' C fs => o = .rse C fs (μ'.take n)
  | .nx _ μ' => ∃ ν μ0, o = .ok Nn μ0 ∧ μ0.length = n ∧ μ' = μ0 ++ ν
  | _ => False
section
variable {w : World} {P : Program} {K : PySem.W.Frag} {base : Heap} {mg : Str → Option Value}
theorem fnx_mk {x qual : Str} {st : Stmt} {f : Addr} {fd : FuncData} {N ps : List Str} {k : Nat} {C : ConX} (F : Fun K x qual st f fd) (Sc : FnScope N ps (defScope st)) (hN : ps.length ≤ N.length)
    (body : ∀ (cdv : Value) (A : Around) (outer : List Env) (s : Shared) (H : Hp) (E : XK), Room k (A.deeper (envOfC qual (defScope st) s.heap.objs.size f cdv)) → ∀ rs μ o, rs.length = ps.length → C rs μ o →
      ST (cxOf (L2N.CX P w) P w K mg base N qual (defScope st) f cdv A outer s H E) (fun cls d _ H => E cls d H) μ.length (defBody st) (rs.map some ++ List.replicate (N.length - rs.length) none) μ (PostX μ.length o)) : FnOk P w K mg base (L2N.CX P w) (k + 1) f fd ps (SpX K ps C) := by
  refine okXN F Sc (fun vs H Q E h => ?_) (fun cdv A outer s H vs Q E hr h => ?_)
  · obtain ⟨w0, μ, rs, o, _, hv, hl, _⟩ := h
    rw [hv.1, hl]
  · obtain ⟨w0, μ, rs, o, m, hv, hl, hC, q⟩ := h
    have hb := body cdv A outer s H E hr rs μ o hl hC
    refine hb w0 _ H _ (Nat.le_of_eq m.len.symm) m (sl_start hv (by omega)) fun oo ho => ?_
    have hw : w0.cut μ.length = w0 := by
      show (⟨w0.α.take μ.length, w0.ξ⟩ : Wd) = w0
      rw [← m.len, List.take_length]
    have hwb : ∀ β, (w0.add β).cut μ.length = w0 := fun β => by
      show (⟨(w0.α ++ β).take μ.length, w0.ξ⟩ : Wd) = w0
      rw [← m.len, List.take_left]
    cases oo with
    | ret r2 μ2 =>
      have e : o = .ok r2 μ2 := ho
      subst e
      intro v H' m' f' hv'
      rw [hw] at m' hv'
      exact q v H' m' f' hv'
    | nx ρ2 μ2 =>
      obtain ⟨ν, μ0, rfl, hl0, rfl⟩ := ho
      intro β σ' H' m' s' f' hb'
      have mc := m'.cut μ.length
      rw [hwb, ← hl0, List.take_left] at mc
      exact q .non H' mc f' Dq.non
    | brk ρ2 μ2 => exact False.elim ho
    | ct ρ2 μ2 => exact False.elim ho
    | rse ρ2 μ2 C2 fs =>
      have e : o = .rse C2 fs (μ2.take μ.length) := ho
      subst e
      intro od β σ' H' m' s' f' hb' hx
      have mc := m'.cut μ.length
      rw [hwb] at mc
      refine q od H' mc f' (hx.sub fun b hb2 => ?_)
      rcases List.mem_append.mp hb2 with z | z
      · exact List.mem_append_left _ (List.mem_append_left _ z)
      · exact List.mem_append_right _ z
theorem Df.calX {x : Str} {st : Stmt} {N ps : List Str} {k : Nat} {C : ConX} (D : Df K mg x st) (Sc : FnScope N ps (defScope st))
    (hb : ∀ (kV doc pm : Value) (an : Option Addr) (cdv ct : Value) (us : List Value), us.length = ps.length → bindArgs (PySem.W.fnOf x x (defArgs st) (defBody st) (defScope st) .none kV doc pm an cdv ct) ⟨us, []⟩ = pure (ps.zip us))
    (hN : ps.length ≤ N.length)
    (body : ∀ (f : Addr) (cdv : Value) (A : Around) (outer : List Env) (s : Shared) (H : Hp) (E : XK), Room k (A.deeper (envOfC x (defScope st) s.heap.objs.size f cdv)) → ∀ rs μ o, C rs μ o →
      ST (cxOf (L2N.CX P w) P w K mg base N x (defScope st) f cdv A outer s H E) (fun cls d _ H => E cls d H) μ.length (defBody st) (rs.map some ++ List.replicate (N.length - rs.length) none) μ (PostX μ.length o)) : CalX P w K mg base x (k + 1) ps C := by
  obtain ⟨f, fd, F, hm⟩ := D.ex
  exact ⟨f, fd, fnx_mk F Sc hN fun cdv A outer s H E hr rs μ o _ hC => body f cdv A outer s H E hr rs μ o hC, hm, F.kp, F.binds hb⟩
end
section
variable {X : Cx} {W : WX} {ρ : REnv} {μ μ1 μ2 : Sto} {e : Expr} {es : List Expr} {pos p : Pos} {rs : List Ent} {r : Ent} {o : Res} {n : Str} {k nn : Nat} {ps : List Str} {P : Out → Prop} {rest : List Stmt}
theorem EVR.call {C : ConX} (F : CalX X.prog X.w X.K X.mg X.base n k ps C) (tk : L2N.Takes X W) (hr : Room k X.A) (ha : AV X (e :: es) ρ μ rs μ1) (hC : C rs μ1 o) (hl : rs.length = ps.length := by rfl)
    (hg : Gl X n := by rfl) (hdb : (n == ("__debug__" : Str)) = false := by decide) (he : starEach (e :: es) X.env = (false, eval e X.env) :: starEach es X.env := by rfl) (hpl : (backTo pos (starEach es X.env)).any (·.1) = false := by rfl) :
    EVR X W (.Call (.Name n p) (e :: es) [] pos) ρ μ o := by
  intro w σ H m s Q q
  obtain ⟨f, fd, G, hm, hk, hb⟩ := F.ex
  refine ⟨_, pe_callS (E := WE W) G hr hg hm hk hb (fun σ => L2N.passAt tk σ) (p_ax (e := e :: es)) hdb he hpl, ?_⟩
  refine ha w σ H m s _ fun vs H1 m1 f1 h1 => ?_
  refine ⟨w, μ1, rs, o, m1, h1, hl, hC, ?_⟩
  cases o with
  | ok r μ2 => exact fun v H2 m2 f2 h2 => q v H2 m2 (f1.trans f2) h2
  | rse C fs μ2 => exact fun od H2 m2 f2 h2 => q od H2 m2 (f1.trans f2) h2
end
/-! ### raise -/
def spXI (C : Addr) (f : Str) : Sp := fun vs H Q _ => ∃ a v, vs = [.ref a, v] ∧ H a = some (exo a C none) ∧ ∀ dx, H dx = none → dx ≠ a → Q .non (upd (upd H dx (exd dx [(f, v)])) a (exo a C (some dx)))
structure ExcK (P : Program) (w : World) (K : PySem.W.Frag) (mg : Str → Option Value) (base : Heap) (n : Str) (C : Addr) (f : Str) : Prop where
  oex : OexC K C
  at_ : mg n = some (.ref C)
  noF : PySem.W.findIn K (.ref C) f = some none
  ini : ∃ fI fd, PySem.W.findIn K (.ref C) "__init__" = some (some (.ref fI)) ∧ PySem.W.typeIn K (.ref fI) = some (.type "function") ∧ FnOk P w K mg base CX0 1 fI fd ["self", f] (spXI C f) ∧ Binds K fd ["self", f] []
section
variable {X : Cx} {W : WX} {ρ : REnv} {μ μ1 : Sto} {e : Expr} {pos p pos' : Pos} {d : PyData} {n f : Str} {C : Addr} {nn k : Nat} {P : Out → Prop} {rest : List Stmt}
theorem exc_end {K : PySem.W.Frag} {H : Hp} {w : Wd} {a dx : Addr} {v : V} {o1 o2 o3 : HO} (m : Mem K H w μ) (hv : Val K H w v (.dat d)) (ha : H a = none) (hd : H dx = none) (hne : dx ≠ a) :
    Mem K (upd (L2.del (upd (upd (upd H a o1) dx o2) a o3) a) dx (.xd [(f, v)])) w μ ∧ Fr w.α H (upd (L2.del (upd (upd (upd H a o1) dx o2) a o3) a) dx (.xd [(f, v)])) ∧ Xd (upd (L2.del (upd (upd (upd H a o1) dx o2) a o3) a) dx (.xd [(f, v)])) w (some dx) [(f, d)] := by
  have hS : Same H (upd (L2.del (upd (upd (upd H a o1) dx o2) a o3) a) dx (.xd [(f, v)])) := fun b u e => by
    have n1 : b ≠ a := ne_of_none e ha
    have n2 : b ≠ dx := ne_of_none e hd
    rw [upd_ne n2, L2.del_ne n1, upd_ne n1, upd_ne n2, upd_ne n1]
    exact e
  exact ⟨m.same hS, Fr.of_same hS, [(f, v)], upd_same, m.freshA hd, rfl, .cons (dq_mono (Fr.of_same (S := w.α) hS).all _ _ hv) .nil⟩
/-- raise X(e) -/
theorem ST.raise (M : ExcK X.prog X.w X.K X.mg X.base n C f) (tk : L2N.Takes X W) (hr : Room k X.A) (ha : EV X e ρ μ (.dat d) μ1) (hP : P (.rse ρ μ1 C [(f, d)])) (hk : 2 ≤ k := by decide) (hc : X.calm = true := by rfl) (hg : Gl X n := by rfl)
    (hdb : (n == ("__debug__" : Str)) = false := by decide) (he : starEach [e] X.env = (false, eval e X.env) :: starEach [] X.env := by rfl) (hpl : (backTo pos (starEach [] X.env)).any (·.1) = false := by rfl) : ST X W nn (.Raise (some (.Call (.Name n p) [e] [] pos)) none pos' :: rest) ρ μ P := by
  intro w σ H D hn m s q
  obtain ⟨fI, fd, iC, tI, F, bi⟩ := M.ini
  refine ⟨_, pss_cons (L2N.ps_raise hc tk (pmk_oexN (Y := CX0) M.oex iC tI F (hr.mono hk) bi pass0 hg M.at_ (pa_cons (p_ex (e := e)) pa_nil he) hdb he hpl)) pss_never, ?_⟩
  refine ha w σ H m s _ fun v H1 m1 f1 hv => ?_
  refine ⟨by simp, fun a na => ⟨a, v, rfl, upd_same, fun dx hd hne => ⟨rfl, dx, [(f, v)], upd_same, ?_, ?_, ?_⟩⟩⟩
  · rw [upd_ne hne, upd_same]
  · rwa [upd_ne hne] at hd
  · have hd' : H1 dx = none := by rwa [upd_ne hne] at hd
    obtain ⟨m2, f2, x2⟩ := exc_end (f := f) (o1 := exo a C none) (o2 := exd dx [(f, v)]) (o3 := exo a C (some dx)) m1 hv na hd' hne
    exact Fin.rse0 (q _ hP) m2 ((s.fr f1).fr f2) (f1.trans f2) x2
end
end J
/-! J24: objects whose __init__ may raise; the __init__ of an error; ifs that raise. -/
namespace J
open PySem PySem.Spec
open PyProof.Rows L2
section
variable {X : Cx} {W : WX} {n : Nat} {ρ : REnv} {μ μ1 : Sto} {P : Out → Prop} {c : Expr} {body rest : List Stmt} {pos : Pos} {k : Bool}
theorem ST.ifX (h : TV X c ρ μ k μ1) (h1 : k = true → ST X W n body ρ μ1 (thenP X W n rest P)) (h2 : k = false → ST X W n rest ρ μ1 P) : ST X W n (.If c body [] pos :: rest) ρ μ P := ST.iff h h1 fun z => ST.nil (h2 z)
end
/-- the __init__ of an error: self.f = f -/
theorem okXI {P : Program} {w : World} {K : PySem.W.Frag} {mg : Str → Option Value} {base : Heap} {C fI : Addr} {fd : FuncData} {qual f : Str} {st : Stmt} {p1 p2 p3 pos : Pos} (F : Fun K "__init__" qual st fI fd) (Sc : FnScope ["self", f] ["self", f] (defScope st)) (oe : OexC K C) (no : PySem.W.findIn K (.ref C) f = some none) (hb : defBody st = [.Assign [.Attribute (.Name "self" p1) f p2] (.Name f p3) pos])
    (hv : Vis (defScope st) f) (hv0 : Vis (defScope st) "self") (hd : (f == ("__debug__" : Str)) = false := by decide) (hcd : (f == ("__classdict__" : Str)) = false := by decide) : FnOk P w K mg base CX0 1 fI fd ["self", f] (spXI C f) := by
  refine F.ok Sc (fun vs H Q E h => ?_) (fun cdv A outer s H vs Q E hr h => ?_)
  · obtain ⟨a, v, rfl, _⟩ := h
    rfl
  · obtain ⟨a, v, rfl, ha, q⟩ := h
    rw [hb]
    refine ⟨_, pss_one (ps_ost (pe_var (i := 0) rfl hv0) (pe_var (i := 1) rfl hv hd hcd)), ?_⟩
    exact ⟨v, rfl, .ref a, rfl, a, C, rfl, oe, no, .inl ⟨ha, q⟩⟩
/-! making -/
def spInitX (K : PySem.W.Frag) (C : Addr) (f : Str) (Chk : PyData → Option (Addr × List (Str × PyData)) → Prop) : Sp := fun vs H Q E => ∃ x dx v w μ d o, vs = [.ref x, v] ∧ H x = some (.ins C dx []) ∧ x ∈ w.ξ ∧ Mem K H w μ ∧ Val K H w v (.dat d) ∧ Chk d o ∧
  (match o with
    | none => ∀ H1, Mem K H1 w μ → Fr w.α H H1 → Val K H1 w v (.dat d) → Q .non (upd H1 x (.ins C dx [(f, v)]))
    | some cf => ∀ od H1, Mem K H1 w μ → Fr w.α H H1 → Xd H1 w od cf.2 → E (.ref cf.1) od H1)
structure MakX (P : Program) (w : World) (K : PySem.W.Frag) (mg : Str → Option Value) (base : Heap) (n : Str) (C : Addr) (f : Str) (k : Nat) (ps : List Str) (Chk : PyData → Option (Addr × List (Str × PyData)) → Prop) : Prop where
  ex : ∃ g fd, FnOk P w K mg base (L2N.CX P w) k g fd ps (spInitX K C f Chk) ∧ Mk K C g ∧ mg n = some (.ref C) ∧ Binds K fd ps [] ∧ KBn K fd ps 1 [ps.getD 1 Str.empty] (fun us ws => us ++ ws) (fun vs zs => vs ++ zs)
theorem make_valD {K : PySem.W.Frag} {H : Hp} {w : Wd} {xx dx : Addr} {o o' : HO} {v : V} {d : PyData} (h : Val K H w v (.dat d)) (hx : H xx = none) (hdx : H dx = none) : Val K (upd (upd H dx o') xx o) (wk' w xx) v (.dat d) := by
  have hS : Same H (upd (upd H dx o') xx o) := fun b u e => by
    rw [upd_ne (ne_of_none e hx), upd_ne (ne_of_none e hdx)]
    exact e
  exact dq_mono (keep_out (K := K) hx (Fr.of_same hS) ⟨_, upd_same⟩) _ _ h
/-- the outcome of C(d) -/
def mkRes (C : Addr) (f : Str) (d : PyData) (μ : Sto) : Option (Addr × List (Str × PyData)) → Res
  | none => .ok (.obj C [(f, d)]) μ
  | some cf => .rse cf.1 cf.2 μ
section
variable {X : Cx} {W : WX} {ρ : REnv} {μ μ1 : Sto} {e : Expr} {pos p kpos : Pos} {n f : Str} {C : Addr} {k : Nat} {ps : List Str} {d : PyData} {Chk : PyData → Option (Addr × List (Str × PyData)) → Prop} {o : Option (Addr × List (Str × PyData))}
/-- the callee runs; what it lets out is wished for at the caller's slots -/
theorem run_makeS {CX1 : CXT} {g : Addr} {fd : FuncData} {sp : Sp} {E : XK} {pins : List (Addr × Obj)} {σ : L2.St} {H : Hp} {s : Shared} {Q : VK} {us ws : List Value} {ks : List Str} {vs : List V} (mk : Mk X.K C g) (F : FnOk X.prog X.w X.K X.mg X.base CX1 k g fd ps sp) (hr : Room (k + 1) X.A)
    (hb : ∀ s : Shared, ∀ u : Value, X.K.In s.heap → BindsTo s fd ⟨u :: us, ks.zip ws⟩ (ps.zip (u :: (us ++ ws)))) (hx : PassesAt CX1 X σ E) (I : Inv X pins σ H s) (r : Vals vs (us ++ ws))
    (h : ∀ x dx, H x = none → H dx = none → dx ≠ x → sp (.ref x :: vs) (upd (upd H dx (.own x)) x (.ins C dx [])) (fun v H2 => v = .non ∧ Q (.ref x) H2) E) : wpAny (model X.prog X.w) X.A (call (.ref C) us (ks.zip ws)) (EP X pins σ Q) X.xe s := by
  have q0 := h (s.heap.objs.size + 1) s.heap.objs.size (I.hok.fresh (Nat.le_succ _)) (I.hok.fresh (Nat.le_refl _)) (Nat.ne_of_lt (Nat.lt_succ_self _))
  have J2 := Inv.made (C := C) I
  have rr : Vals (V.ref (s.heap.objs.size + 1) :: vs) (Value.ref (s.heap.objs.size + 1) :: (us ++ ws)) := .cons rfl r
  refine wpAny_call (make_map (f := g) I.kIn mk.makes mk.init (beq_iff_eq.mp mk.fn) (codeAny_mono (F.run _ X.stack _ _
    ⟨Value.ref (s.heap.objs.size + 1) :: us, ks.zip ws⟩ _ _ _ E (hr.make C us (ks.zip ws)) (J2.env0.make C us (ks.zip ws)) (hb _ _ J2.kIn) rr q0) fun z s' y => ?_))
  cases z with
  | error ee => exact hx pins _ _ ee s' J2 y
  | ok fl =>
    cases fl with
    | ret u =>
      obtain ⟨v, H', J3, rv, ev, q3⟩ := J2.after y
      subst ev
      exact ⟨rv, ⟨V.ref (s.heap.objs.size + 1), H', J3, rfl, q3⟩⟩
    | next => exact y.elim
    | brk => exact y.elim
    | cont => exact y.elim
theorem make_endX {w : Wd} {σ : L2.St} {H H1 : Hp} {x dx : Addr} {v : V} {Q : VK} (m1 : Mem X.K H w μ1) (h1 : Val X.K H w v (.dat d)) (hC : Chk d o) (hx : H x = none) (hdx : H dx = none) (hne : dx ≠ x) (q : EndR X.K w H σ W Q (mkRes C f d μ1 o)) :
    spInitX X.K C f Chk [.ref x, v] (upd (upd H dx (.own x)) x (.ins C dx [])) (fun v H2 => v = .non ∧ Q (.ref x) H2) (fun cls od H2 => W cls od σ H2) := by
  refine ⟨x, dx, v, wk' w x, μ1, d, o, rfl, upd_same, List.mem_cons_self, make_mem m1 hx hdx hne, make_valD h1 hx hdx, hC, ?_⟩
  have hxa : x ∉ w.all := m1.freshA hx
  cases o with
  | none =>
    intro H2 m2 f2 h2
    refine ⟨rfl, ?_⟩
    have ff : Fr w.α H (upd H2 x (.ins C dx [(f, v)])) := fun b o e nb => by
      have b1 : b ≠ x := ne_of_none e hx
      have b2 : b ≠ dx := ne_of_none e hdx
      rw [upd_ne b1]
      exact f2 b o (by rw [upd_ne b1, upd_ne b2]; exact e) nb
    have g : Same (dl H2 (wk' w x).all) (dl (upd H2 x (.ins C dx [(f, v)])) w.all) := same_outs.trans (dl_sub fun b hb => all_wk'.mpr (.inr hb))
    exact q _ _ m2.outs.unkeep ff ⟨x, dx, [(f, v)], rfl, dl_of hxa upd_same, rfl, .cons (dq_mono g _ _ h2) .nil⟩
  | some cf =>
    intro od H2 m2 f2 x2
    have ff : Fr w.α H H2 := fun b o e nb => by
      have b1 : b ≠ x := ne_of_none e hx
      have b2 : b ≠ dx := ne_of_none e hdx
      exact f2 b o (by rw [upd_ne b1, upd_ne b2]; exact e) nb
    exact q od H2 m2.unkeep ff (x2.sub fun b hb => all_wk'.mpr (.inr hb))
theorem EVR.make (M : MakX X.prog X.w X.K X.mg X.base n C f k ps Chk) (tk : L2N.Takes X W) (hr : Room (k + 1) X.A) (ha : EV X e ρ μ (.dat d) μ1) (hC : Chk d o) (hg : Gl X n := by rfl) (hs : starEach [e] X.env = (false, eval e X.env) :: starEach [] X.env := by rfl) (hdb : (n == ("__debug__" : Str)) = false := by decide)
    (hpl : (backTo pos (starEach [] X.env)).any (·.1) = false := by rfl) (hps : ps.length = 2 := by rfl) : EVR X W (.Call (.Name n p) [e] [] pos) ρ μ (mkRes C f d μ1 o) := by
  intro w σ H m s Q q
  obtain ⟨g, fd, F, mk, hm, bi, _⟩ := M.ex
  refine ⟨fun σ H Q => tCons (EX X e) tNil σ H fun vs H1 => vs.length = 1 ∧ ∀ x dx, H1 x = none → H1 dx = none → dx ≠ x → spInitX X.K C f Chk (.ref x :: vs) (upd (upd H1 dx (.own x)) x (.ins C dx [])) (fun v H2 => v = .non ∧ Q (.ref x) H2) (WE W σ), ⟨fun pins s0 σ0 H0 Q0 I h => ?_⟩, ?_⟩
  · refine wpAny_Call_Name_kw (ld_glob I hg hm ?_ hdb)
    refine PySem.W.callWith_K (h₀ := X.base) I.ok.mod.kin mk.kp (thn ((pa_cons (p_ex (e := e)) pa_nil hs).run pos pins s0 σ0 H0 _ I h) fun us s1 ⟨vs, H1, I1, r, hl, z⟩ => ⟨I1.kIn, ?_⟩) hs hpl
    have hul : us.length = 1 := r.length.symm.trans hl
    have r' : Vals vs (us ++ []) := by rw [List.append_nil]; exact r
    exact run_makeS (ks := []) (ws := []) mk F hr (fun s u ki => by
      have := bi s (u :: us) ki (by rw [List.append_nil, hps, List.length_cons, hul])
      rw [List.append_nil] at this
      rw [List.append_nil]
      exact this) (L2N.passAt tk σ0) I1 r' z
  · refine ha w σ H m s _ fun v H1 m1 f1 h1 => ?_
    refine ⟨rfl, fun x dx hx hdx hne => ?_⟩
    refine make_endX (H1 := H1) m1 h1 hC hx hdx hne ?_
    cases o with
    | none => exact fun u H2 m2 f2 h2 => q u H2 m2 (f1.trans f2) h2
    | some cf => exact fun od H2 m2 f2 h2 => q od H2 m2 (f1.trans f2) h2
end
end J
/-! J44: the program's own exceptions, under ValueError, LookupError or ArithmeticError alike. -/
namespace PySem
namespace OG
open PySem.Calls PyProof.Rows Builtin Builtin.ObjectAttr
/-- the line of a built-in class of errors -/
def lineOf (B : String) : List Value := .type B :: [.type "Exception", .type "BaseException", .type "object"]
/-- own classes ahead of such a line -/
def ownLine (B : String) : List Value → Bool
  | .ref _ :: more => ownLine B more
  | line => line == lineOf B
theorem ownLine_split {B : String} : ∀ l : List Value, ownLine B l = true → (∃ a more, l = .ref a :: more ∧ ownLine B more = true) ∨ l = lineOf B := by
  intro l e
  match l, e with
  | .ref a :: more, e => exact .inl ⟨a, more, rfl, e⟩
  | [], e => exact .inr (beq_iff_eq.mp e)
  | .none :: _, e | .ellipsis :: _, e | .notImplemented :: _, e | .bool _ :: _, e | .int _ _ :: _, e | .float _ _ :: _, e | .str _ _ :: _, e | .bytes _ _ :: _, e | .type _ :: _, e | .builtin _ :: _, e => exact .inr (beq_iff_eq.mp e)
/-- what making and storing want to know of the classes behind an own one -/
structure Under (line : List Value) (make : String) : Prop where
  base : ∃ (B : String) (init : String) (tail : List Value), ExcBaseFacts B make init tail ∧ ∀ Y : String, line.contains (.type Y) = tail.contains (.type Y)
  free : ∀ self : Value, refuseLoop self "__setattr__" line = pure ()
  some_ : line.isEmpty = false
theorem Under.obj {line : List Value} {make : String} (U : Under line make) (h : line.contains (.type "object") = true) : line.contains (.type "object") = true := h
theorem under_line {B init make : String} (F0 : ExcBaseFacts B make init (lineOf B)) (p : ∀ self : Value, refuseLoop self "__setattr__" (lineOf B) = pure ()) : ∀ line : List Value, ownLine B line = true → Under line make ∧ line.contains (.type "object") = true := by
  intro line
  induction line with
  | nil => intro e; cases (beq_iff_eq.mp e : [] = lineOf B)
  | cons a more ih =>
    intro e
    rcases ownLine_split (a :: more) e with ⟨a', more', q, h⟩ | q
    · obtain ⟨rfl, rfl⟩ := List.cons.inj q
      obtain ⟨⟨⟨B', i', t', G, hY⟩, hp, _⟩, hobj⟩ := ih h
      refine ⟨⟨⟨B', i', t', G, fun Y => ?_⟩, fun self => ?_, rfl⟩, ?_⟩
      · rw [List.contains_cons, hY Y]
        rfl
      · rw [refuseLoop_ref]
        exact hp self
      · rw [List.contains_cons, hobj, Bool.or_true]
    · rw [q]
      exact ⟨⟨⟨B, init, lineOf B, F0, fun Y => rfl⟩, p, rfl⟩, by
        unfold lineOf
        simp⟩
theorem under_of {B make : String} {line : List Value} (h : (B = "ValueError" ∧ make = "ValueError.__new__") ∨ (B = "LookupError" ∧ make = "LookupError.__new__") ∨ (B = "ArithmeticError" ∧ make = "ArithmeticError.__new__")) (e : ownLine B line = true) : Under line make ∧ line.contains (.type "object") = true := by
  rcases h with ⟨rfl, rfl⟩ | ⟨rfl, rfl⟩ | ⟨rfl, rfl⟩
  · exact under_line F.excBase_ValueError (fun self => by kernel_rfl) line e
  · exact under_line F.excBase_LookupError (fun self => by kernel_rfl) line e
  · exact under_line F.excBase_ArithmeticError (fun self => by kernel_rfl) line e
section
variable {pr : Program} {wo : World} {Ar : Around} {Rq : Result → Shared → Prop} {u0 : Heap} {gs : Array GenState} {dr : Drawn} {tm : Nat} {oz : OsState}
/-- object.__setattr__ of an exception's first attribute -/
theorem put_first {K : W.Frag} {y : Str} {tk : Tok} {val : Value} {e C : Addr} {parts : Array Value} {cd : ClassData} {make : String}
    (X : K.In u0) (at_ : u0.get? e = some { cls := .ref C, data := .fields parts }) (cls : W.clsIn K C = some cd) (U : Under cd.mro make) (ob : cd.mro.contains (.type "object") = true) (dic : cd.hasDict = true) (no : W.findIn K (.ref C) y = some none)
    (goal : ∀ u1 tk1 dx, (∀ b o, b ≠ e → u0.get? b = some o → u1.get? b = some o) → u0.objs.size ≤ dx → dx ≠ e → u1.get? e = some { cls := .ref C, dict := some dx, data := .fields parts } →
      u1.Ns1 dx (fun z => if z = y then some val else none) → Rq (.ok (.ret .none)) ⟨u1, gs, dr, tk1, oz⟩) :
    codeAny (model pr wo) Ar (.call (.builtin "object.__setattr__") ⟨[.ref e, .str y tk, val], []⟩) Rq ⟨u0, gs, dr, tm, oz⟩ := by
  have In0 : W.InstAt u0 e { cls := .ref C, data := .fields parts } C none := ⟨at_, rfl, rfl, trivial⟩
  have St := F.store_object
  have far : e ≠ u0.objs.size := Nat.ne_of_lt (Heap.lt_size at_)
  have isO : W.Looks (model pr wo) u0 (isInstance (.ref e) (.type "object")) true := In0.type.andThen (W.looks_mroIn X (by
    unfold W.mroIn
    rw [cls, Option.bind_some, if_neg (by rw [U.some_]; decide), ob]))
  refine codeAny_call_builtin St.slot.plain St.entry ?_
  refine @W.check_slot (model pr wo) _ _ ⟨u0, gs, dr, tm, oz⟩ "object.__setattr__" "object" "__setattr__" (.ref e) [.str y tk, val] [] _ St.kind St.split isO (St.args (.ref e) (.str y tk) val) ?_
  have order : W.Looks (model pr wo) u0 (mroOf (.ref C)) cd.mro := (W.looks_clsIn X cls).andThen .now
  have noTaker : W.Looks (model pr wo) u0 (storeTaker? none) none := .now
  have theCls : W.Looks (model pr wo) u0 (classData C) cd := W.looks_clsIn X cls
  rw [W.osa_eq, refuse_eq]
  refine wpAny_bind (wpAny_bind (In0.type.at (wpAny_bind (order.at ?_))))
  rw [U.free]
  refine wpAny_pure (wpAny_bind (In0.type.at (wpAny_bind ((W.looks_findIn X no).at (wpAny_bind (noTaker.at ?_))))))
  show wpAny _ _ (storeInOwnDict (.ref e) (.ref C) (.str y tk) y val false) _ _ _
  obtain ⟨_, _, _, _, _, hd, _, _, _, _, _⟩ := cd
  dsimp only at dic
  subst dic
  unfold storeInOwnDict ownDictForStores
  repeat (first
    | with_reducible refine HandSPX.store_in_new ?_ ?_
    | with_reducible refine wpAny_loadPart_at at_ ?_
    | with_reducible refine theCls.at ?_
    | wp_step)
  · exact ⟨_, #[], _, (Heap.get?_update_ne _ _ _ _ far.symm).trans (Heap.get?_push_at rfl rfl), rfl, (fun z hz => absurd hz (by simp)), fun _ => rfl⟩
  · intro u1 tk1 ns same
    have e1 : (u0.push { cls := .type "dict", data := .dict #[] }).get? e = some { cls := .ref C, data := .fields parts } := Heap.get?_push_of_some _ at_
    refine goal u1 tk1 u0.objs.size (fun b o nb eo => ?_) (Nat.le_refl _) far.symm ?_ ns
    · have nb2 : b ≠ u0.objs.size := Nat.ne_of_lt (Heap.lt_size eo)
      exact (same.2 b nb2).trans ((Heap.get?_update_ne _ _ _ _ nb).trans (Heap.get?_push_of_some _ eo))
    · exact (same.2 e far).trans (Heap.get?_update_self _ e1 rfl)
/-- a further attribute -/
theorem put_more {K : W.Frag} {y : Str} {tk : Tok} {val : Value} {e C dx : Addr} {parts : Array Value} {cd : ClassData} {make : String} {m0 : Str → Option Value} {known : List Str}
    (X : K.In u0) (at_ : u0.get? e = some { cls := .ref C, dict := some dx, data := .fields parts }) (ns0 : u0.Ns1 dx m0) (wi : Within m0 known) (few : known.length ≤ 1000) (cls : W.clsIn K C = some cd) (U : Under cd.mro make) (ob : cd.mro.contains (.type "object") = true) (dic : cd.hasDict = true) (no : W.findIn K (.ref C) y = some none)
    (goal : ∀ u1 tk1, (∀ b o, b ≠ dx → u0.get? b = some o → u1.get? b = some o) → u1.Ns1 dx (fun z => if z = y then some val else m0 z) → Rq (.ok (.ret .none)) ⟨u1, gs, dr, tk1, oz⟩) :
    codeAny (model pr wo) Ar (.call (.builtin "object.__setattr__") ⟨[.ref e, .str y tk, val], []⟩) Rq ⟨u0, gs, dr, tm, oz⟩ := by
  obtain ⟨dO, _, _, hdO, _, _⟩ := ns0.count wi
  have In0 : W.InstAt u0 e { cls := .ref C, dict := some dx, data := .fields parts } C (some dO) := ⟨at_, rfl, rfl, hdO⟩
  have St := F.store_object
  have isO : W.Looks (model pr wo) u0 (isInstance (.ref e) (.type "object")) true := In0.type.andThen (W.looks_mroIn X (by
    unfold W.mroIn
    rw [cls, Option.bind_some, if_neg (by rw [U.some_]; decide), ob]))
  refine codeAny_call_builtin St.slot.plain St.entry ?_
  refine @W.check_slot (model pr wo) _ _ ⟨u0, gs, dr, tm, oz⟩ "object.__setattr__" "object" "__setattr__" (.ref e) [.str y tk, val] [] _ St.kind St.split isO (St.args (.ref e) (.str y tk) val) ?_
  have order : W.Looks (model pr wo) u0 (mroOf (.ref C)) cd.mro := (W.looks_clsIn X cls).andThen .now
  have noTaker : W.Looks (model pr wo) u0 (storeTaker? none) none := .now
  have theCls : W.Looks (model pr wo) u0 (classData C) cd := W.looks_clsIn X cls
  rw [W.osa_eq, refuse_eq]
  refine wpAny_bind (wpAny_bind (In0.type.at (wpAny_bind (order.at ?_))))
  rw [U.free]
  refine wpAny_pure (wpAny_bind (In0.type.at (wpAny_bind ((W.looks_findIn X no).at (wpAny_bind (noTaker.at ?_))))))
  show wpAny _ _ (storeInOwnDict (.ref e) (.ref C) (.str y tk) y val false) _ _ _
  obtain ⟨_, _, _, _, _, hd, _, _, _, _, _⟩ := cd
  dsimp only at dic
  subst dic
  unfold storeInOwnDict ownDictForStores
  repeat (first
    | with_reducible refine OEX.store_in_old ns0 wi few ?_
    | with_reducible refine wpAny_loadPart_at at_ ?_
    | with_reducible refine theCls.at ?_
    | wp_step)
  intro u1 tk1 ns same
  exact goal u1 tk1 (fun b o nb eo => (same.2 b nb).trans eo) ns
end
end OG
end PySem
/-! J45: raising them. -/
namespace J
open PySem PySem.Spec
open PyProof.Rows L2
/-- an own class of errors, under one of the three -/
structure OexG (K : PySem.W.Frag) (C : Addr) : Prop where
  cls : ∃ nm q N bs bm sn sub ab col dd k0 k1 k2 k3 k5 make, K.lookup C = some (excClassObj nm q C N bs bm true sn sub ab col dd k0 k1 k2 k3 k5 make) ∧ OG.Under bm make ∧ bm.contains (.type "object") = true
  sa : PySem.W.findIn K (.ref C) "__setattr__" = some (some (.builtin "object.__setattr__"))
  exC : PySem.W.subIn K (.ref C) (.type "BaseException") = some true
  tyC : PySem.W.typeIn K (.ref C) = some (.type "type")
  kC : PySem.W.keepIn K (.ref C) = true
section
variable {X : Cx} {pins : List (Addr × Obj)} {σ : L2.St} {H : Hp} {s : Shared} {a C dx : Addr} {f : Str} {y : V} {u : Value} {fs : List (Str × V)} {Q : Unit → Shared → Prop} {E : Value → Shared → Prop} {A : Around}
theorem under_cons {K : PySem.W.Frag} {C : Addr} {bm : List Value} {make : String} (U : OG.Under bm make) : OG.Under (.ref C :: bm) make := by
  obtain ⟨⟨B, i, t, G, hY⟩, hp, _⟩ := U
  refine ⟨⟨B, i, t, G, fun Y => ?_⟩, fun self => ?_, rfl⟩
  · rw [List.contains_cons, hY Y]
    rfl
  · rw [refuseLoop_ref]
    exact hp self
/-- self.f = y, where nothing has been put -/
theorem ostG_new (T : OexG X.K C) (I : Inv X pins σ H s) (e : H a = some (exo a C none)) (no : PySem.W.findIn X.K (.ref C) f = some none) (ry : RelV y u)
    (goal : ∀ dx s', H dx = none → dx ≠ a → Inv X pins σ (upd (upd H dx (exd dx [(f, y)])) a (exo a C (some dx))) s' → Q () s') : wpAny (model X.prog X.w) A (setAttr (.ref a) f u) Q E s := by
  obtain ⟨nm, q, N, bs, bm, sn, sub, ab, col, dd, k0, k1, k2, k3, k5, make, lk, U, ob⟩ := T.cls
  obtain ⟨t1, eo⟩ := exo_at I.hok e
  obtain ⟨u0, gs, dr, tm, oz⟩ := s
  have cl : PySem.W.clsIn X.K C = some { name := nm, bases := bs, mro := .ref C :: bm, ns := N, qualname := q, hasDict := true, slotNames := sn, subclasses := sub, abstract := ab, collection := col, hasDel := false } := by
    unfold PySem.W.clsIn
    rw [lk]
  have inst : PySem.W.InstAt u0 a { cls := .ref C, dict := none, data := .fields #[.ref t1, .none, .none, .none, .bool false, .none] } C none := ⟨eo, rfl, rfl, trivial⟩
  refine PySem.W.set_plain I.kIn inst T.sa ?_
  refine OG.put_first I.kIn eo cl (under_cons (K := X.K) U) (by rw [List.contains_cons, ob, Bool.or_true]) rfl no fun u1 tk1 dx keep out ne at1 ns => ?_
  have free : H dx = none := I.hok.fresh out
  have other : ∀ {b : Addr} {o : Obj}, u0.get? b = some o → b ≠ dx := fun {b o} eb => Nat.ne_of_lt (Nat.lt_of_lt_of_le (Heap.lt_size eb) out)
  have nota : ∀ {b : Addr}, H b = none → b ≠ a := fun {b} n z => by rw [z, e] at n; cases n
  let H2 : Hp := upd (upd H dx (exd dx [(f, y)])) a (exo a C (some dx))
  have same : ∀ {b : Addr}, b ≠ a → b ≠ dx → H2 b = H b := fun {b} n1 n2 => by
    show upd (upd H dx (exd dx [(f, y)])) a (exo a C (some dx)) b = H b
    rw [upd_ne n1, upd_ne n2]
  have change : Un X.fs [] H H2 u0 u1 := {
    keep := fun b o eb n _ _ => keep b o (nota n) eb
    slot := fun b o eb n _ _ => ⟨o.slots, keep b o (nota n) eb⟩
    free := fun b o eb n _ => (same (nota n) (other eb)).trans n
    there := fun b o eb _ => by
      by_cases hb : b = a
      · subst hb
        exact ⟨_, at1⟩
      · exact ⟨o, keep b o hb eb⟩
    tups := fun b xs eb => (same (at_ne e eb exo_tup) (ne_of_none eb free)).trans eb
    frzs := fun b o v eb => (same (at_ne e eb exo_frz) (ne_of_none eb free)).trans eb
    tbls := fun b ps eb => ⟨#[], by rw [same (at_ne e eb exo_tbl) (ne_of_none eb free), eb]; simp⟩ }
  refine goal dx _ free ne (I.un (t' := tk1) change fun b o eb => ?_)
  by_cases h1 : b = a
  · subst h1
    have eb' : upd (upd H dx (exd dx [(f, y)])) b (exo b C (some dx)) b = some o := eb
    rw [upd_same] at eb'
    cases eb'
    exact exo_ok at1
  · by_cases h2 : b = dx
    · subst h2
      have eb' : upd (upd H b (exd b [(f, y)])) a (exo a C (some b)) b = some o := eb
      rw [upd_ne h1, upd_same] at eb'
      cases eb'
      exact exd_ok ns (relO_put (fs := []) ry fun g => True.intro)
    · have eb2 : H b = some o := (same h1 h2).symm.trans eb
      refine (I.hok b o eb2).stay (fun c v hc z => keep c v ?_ z) (fun c hc => ?_) (fun c xs hc => ?_)
      · rcases hc with hc | hc
        · rw [hc]
          exact h1
        · exact at_ne e hc exo_own
      · exact (same (at_ne e hc exo_own) (ne_of_none hc free)).trans hc
      · exact (same (at_ne e hc exo_tup) (ne_of_none hc free)).trans hc
/-- self.f = y, a further one -/
theorem ostG_more (T : OexG X.K C) (I : Inv X pins σ H s) (e : H a = some (exo a C (some dx))) (ed : H dx = some (exd dx fs)) (few : fs.length ≤ 900) (no : PySem.W.findIn X.K (.ref C) f = some none) (ry : RelV y u)
    (goal : ∀ s', Inv X pins σ (upd H dx (exd dx ((f, y) :: fs))) s' → Q () s') : wpAny (model X.prog X.w) A (setAttr (.ref a) f u) Q E s := by
  obtain ⟨nm, q, N, bs, bm, sn, sub, ab, col, dd, k0, k1, k2, k3, k5, make, lk, U, ob⟩ := T.cls
  obtain ⟨t1, eo⟩ := exo_at I.hok e
  obtain ⟨mA, ns0, rel⟩ := exd_at I.hok ed
  have wi := within_of rel
  obtain ⟨u0, gs, dr, tm, oz⟩ := s
  obtain ⟨dO, _, _, hdO, _, _⟩ := ns0.count wi
  have cl : PySem.W.clsIn X.K C = some { name := nm, bases := bs, mro := .ref C :: bm, ns := N, qualname := q, hasDict := true, slotNames := sn, subclasses := sub, abstract := ab, collection := col, hasDel := false } := by
    unfold PySem.W.clsIn
    rw [lk]
  have inst : PySem.W.InstAt u0 a { cls := .ref C, dict := some dx, data := .fields #[.ref t1, .none, .none, .none, .bool false, .none] } C (some dO) := ⟨eo, rfl, rfl, hdO⟩
  refine PySem.W.set_plain I.kIn inst T.sa ?_
  refine OG.put_more I.kIn eo ns0 wi (by rw [List.length_map]; omega) cl (under_cons (K := X.K) U) (by rw [List.contains_cons, ob, Bool.or_true]) rfl no fun u1 tk1 keep ns => ?_
  have there : ∃ o, u1.get? dx = some o := by
    obtain ⟨o, _, _, e', _⟩ := ns
    exact ⟨o, e'⟩
  have put := relO_put (f := f) ry rel
  exact goal _ (I.write (t' := tk1) (x := dx) (e := dx) (o := exd dx ((f, y) :: fs)) (by rw [ed]; exact True.intro) (.inl rfl) keep there (exd_ok ns put))
end
/-- self.f = e in the __init__ of an error -/
def tOsG (K : PySem.W.Frag) (f : Str) (to te : TE) : TS := fun D σ H => te σ H fun y H1 => to σ H1 fun x H2 => ∃ a C : Addr, x = .ref a ∧ OexG K C ∧ PySem.W.findIn K (.ref C) f = some none ∧
  ((H2 a = some (exo a C none) ∧ ∀ dx, H2 dx = none → dx ≠ a → D.nx σ (upd (upd H2 dx (exd dx [(f, y)])) a (exo a C (some dx)))) ∨
    ∃ (dx : Addr) (fs : List (Str × V)), H2 a = some (exo a C (some dx)) ∧ H2 dx = some (exd dx fs) ∧ fs.length ≤ 900 ∧ D.nx σ (upd H2 dx (exd dx ((f, y) :: fs))))
section
variable {X : Cx} {o e : Expr} {es : List Expr} {to te : TE} {ta : TA} {f : Str} {p p' pos : Pos}
theorem ps_osG (ho : PE X o to) (he : PE X e te) (sw : swapsWith e (some (.Attribute o f p')) pos.line X.env = pure false := by rfl) : PS X (.Assign [.Attribute o f p'] e pos) (tOsG X.K f to te) := by
  refine ⟨fun pins s σ H D I h => ?_⟩
  refine plainObj_wpAny_Assign_Attribute (thn (he.run pins s σ H _ I h) fun vu s1 ⟨y, H1, I1, ry, q1⟩ => ?_) sw
  refine thn (ho.run pins s1 σ H1 _ I1 q1) fun xu s2 ⟨x, H2, I2, rx, a, C, ex, T, no, q⟩ => ?_
  subst ex
  obtain rfl : xu = Value.ref a := rx
  rcases q with ⟨ea, q⟩ | ⟨dx, fs, ea, ed, few, q⟩
  · exact ostG_new T I2 ea no ry fun dx s' free ne J => ⟨σ, _, J, q dx free ne⟩
  · exact ostG_more T I2 ea ed few no ry fun s' J => ⟨σ, _, J, q⟩
/-- C(e, ..): its context is None -/
theorem pmk_oexG {Y : CXT} {x : Str} {C gI : Addr} {k : Nat} {fd : FuncData} {ps : List Str} {sp : Sp} (O : OexG X.K C) (hi : PySem.W.findIn X.K (.ref C) "__init__" = some (some (.ref gI))) (ht : PySem.W.typeIn X.K (.ref gI) = some (.type "function"))
    (Fn : FnOk X.prog X.w X.K X.mg X.base Y k gI fd ps sp) (room : Room (k + 1) X.A) (bi : Binds X.K fd ps []) (pass : Passes Y X (fun _ _ _ => False)) (glob : Gl X x) (mean : X.mg x = some (.ref C)) (args : PA X (e :: es) ta)
    (ndb : (x == ("__debug__" : Str)) = false := by decide) (st : starEach (e :: es) X.env = (false, eval e X.env) :: starEach es X.env := by rfl) (pl : (backTo pos (starEach es X.env)).any (·.1) = false := by rfl) :
    L2N.PMk X (.Call (.Name x p) (e :: es) [] pos) (tMkO C sp [] ta) := by
  intro pins s0 σ0 H0 Q J hh
  obtain ⟨c1, c2, c3, c4, c5, c6, c7, c8, c9, c10, c11, c12, c13, c14, c15, make, look, ⟨⟨B, iid, tail, G0, hY⟩, _, _⟩, _⟩ := O.cls
  refine wpAny_Call_Name_kw (ld_glob J glob mean ?_ ndb)
  refine PySem.W.callWith_K (h₀ := X.base) J.ok.mod.kin O.kC (thn (args.run pos pins s0 σ0 H0 _ J hh) fun vals t1 ⟨ws, G, J1, rel, _, want⟩ => ⟨J1.kIn, ?_⟩) st pl
  show wpAny _ _ (call (.ref C) vals) _ _ _
  obtain ⟨h1, gn, dw, tok, sys⟩ := t1
  have le1 : h1.objs.size ≤ h1.objs.size + 1 := Nat.le_succ _
  have want1 := want (h1.objs.size + 1) (J1.hok.fresh le1)
  rw [List.append_nil] at want1
  have keep1 : ∀ b u, h1.get? b = some u → ((h1.push (PySem.W.kdv_tup vals)).push (PySem.HandSPX.excO C h1.objs.size)).get? b = some u := fun b u z => Heap.get?_push_of_some _ (Heap.get?_push_of_some _ z)
  have made : ((h1.push (PySem.W.kdv_tup vals)).push (PySem.HandSPX.excO C h1.objs.size)).get? (h1.objs.size + 1) = some (PySem.HandSPX.excO C h1.objs.size) := by heap_get
  have J2 : Inv X pins σ0 (upd G (h1.objs.size + 1) (exo (h1.objs.size + 1) C none)) ⟨(h1.push (PySem.W.kdv_tup vals)).push (PySem.HandSPX.excO C h1.objs.size), gn, dw, tok, sys⟩ :=
    J1.laid (o := exo (h1.objs.size + 1) C none) (a := h1.objs.size + 1) (t' := tok) (h' := (h1.push (PySem.W.kdv_tup vals)).push (PySem.HandSPX.excO C h1.objs.size)) keep1 le1 (exo_ok made)
  have rel2 : Vals (V.ref (h1.objs.size + 1) :: ws) (Value.ref (h1.objs.size + 1) :: vals) := .cons rfl rel
  have many : (Value.ref (h1.objs.size + 1) :: vals ++ []).length = ps.length := by
    have z := rel2.length
    rw [Fn.len _ _ _ _ want1] at z
    rw [List.append_nil]
    exact z.symm
  have small : vals.length ≤ sizeLine := by
    rw [← Paired.length rel, sizeLine_eq]
    omega
  have bind2 := bi _ (Value.ref (h1.objs.size + 1) :: vals) J2.kIn many
  rw [List.append_nil] at bind2
  refine wpAny_call (PySem.HandSPX.call_own G0 hY (J1.kIn _ _ look) (PySem.W.looks_findIn J1.kIn hi) (fun self => PySem.W.bind_fn J1.kIn self ht) small
    (codeAny_mono (Fn.run _ X.stack _ _ ⟨Value.ref (h1.objs.size + 1) :: vals, []⟩ (Value.ref (h1.objs.size + 1) :: vals) _ _ (fun _ _ _ => False) (room.make C vals []) (J2.env0.make C vals []) bind2 rel2 want1) fun r t3 got => ?_))
  match r, got with
  | .error er, got => exact pass pins σ0 _ _ er t3 J2 got
  | .ok (.ret u), got =>
    obtain ⟨v, G2, os2, ag2, un2, ok2, rv, ev, dd, fs, ea, ed, free, q2⟩ := got
    subst ev
    obtain ⟨h2, gn2, dw2, tok2, sys2⟩ := t3
    obtain ⟨t0, G3, J3, k3, ne3, oe3, na3⟩ := mk_end0 (d2 := dw2) (t2 := tok2) J1 le1 keep1 un2 ok2 os2 ag2 ea ed free
    refine ⟨rv, h1.objs.size + 1, _, _, ⟨G3, gn2, dw2, tok2, sys2⟩, _, .ref C, some dd, rfl, J3, k3, ne3, oe3, ⟨rfl, rfl, fun vs z => ?_⟩, rfl, rfl, na3, rfl, ag2, raises_own O.exC O.tyC, q2⟩
    cases z
    rfl
end
/-- the __init__ of an error: self.f = f -/
theorem okXG {P : Program} {w : World} {K : PySem.W.Frag} {mg : Str → Option Value} {base : Heap} {C fI : Addr} {fd : FuncData} {qual f : Str} {st : Stmt} {p1 p2 p3 pos : Pos} (F : Fun K "__init__" qual st fI fd) (Sc : FnScope ["self", f] ["self", f] (defScope st)) (oe : OexG K C) (no : PySem.W.findIn K (.ref C) f = some none) (hb : defBody st = [.Assign [.Attribute (.Name "self" p1) f p2] (.Name f p3) pos])
    (hv : Vis (defScope st) f) (hv0 : Vis (defScope st) "self") (hd : (f == ("__debug__" : Str)) = false := by decide) (hcd : (f == ("__classdict__" : Str)) = false := by decide) : FnOk P w K mg base CX0 1 fI fd ["self", f] (spXI C f) := by
  refine F.ok Sc (fun vs H Q E h => ?_) (fun cdv A outer s H vs Q E hr h => ?_)
  · obtain ⟨a, v, rfl, _⟩ := h
    rfl
  · obtain ⟨a, v, rfl, ha, q⟩ := h
    rw [hb]
    refine ⟨_, pss_one (ps_osG (pe_var (i := 0) rfl hv0) (pe_var (i := 1) rfl hv hd hcd)), ?_⟩
    exact ⟨v, rfl, .ref a, rfl, a, C, rfl, oe, no, .inl ⟨ha, q⟩⟩
structure ExcG (P : Program) (w : World) (K : PySem.W.Frag) (mg : Str → Option Value) (base : Heap) (n : Str) (C : Addr) (f : Str) : Prop where
  oex : OexG K C
  at_ : mg n = some (.ref C)
  noF : PySem.W.findIn K (.ref C) f = some none
  ini : ∃ fI fd, PySem.W.findIn K (.ref C) "__init__" = some (some (.ref fI)) ∧ PySem.W.typeIn K (.ref fI) = some (.type "function") ∧ FnOk P w K mg base CX0 1 fI fd ["self", f] (spXI C f) ∧ Binds K fd ["self", f] []
section
variable {X : Cx} {W : WX} {ρ : REnv} {μ μ1 : Sto} {e : Expr} {pos p pos' : Pos} {d : PyData} {n f : Str} {C : Addr} {nn k : Nat} {P : Out → Prop} {rest : List Stmt}
/-- raise X(e) -/
theorem ST.raiseG (M : ExcG X.prog X.w X.K X.mg X.base n C f) (tk : L2N.Takes X W) (hr : Room k X.A) (ha : EV X e ρ μ (.dat d) μ1) (hP : P (.rse ρ μ1 C [(f, d)])) (hk : 2 ≤ k := by decide) (hc : X.calm = true := by rfl) (hg : Gl X n := by rfl)
    (hdb : (n == ("__debug__" : Str)) = false := by decide) (he : starEach [e] X.env = (false, eval e X.env) :: starEach [] X.env := by rfl) (hpl : (backTo pos (starEach [] X.env)).any (·.1) = false := by rfl) : ST X W nn (.Raise (some (.Call (.Name n p) [e] [] pos)) none pos' :: rest) ρ μ P := by
  intro w σ H D hn m s q
  obtain ⟨fI, fd, iC, tI, F, bi⟩ := M.ini
  refine ⟨_, pss_cons (L2N.ps_raise hc tk (pmk_oexG (Y := CX0) M.oex iC tI F (hr.mono hk) bi pass0 hg M.at_ (pa_cons (p_ex (e := e)) pa_nil he) hdb he hpl)) pss_never, ?_⟩
  refine ha w σ H m s _ fun v H1 m1 f1 hv => ?_
  refine ⟨by simp, fun a na => ⟨a, v, rfl, upd_same, fun dx hd hne => ⟨rfl, dx, [(f, v)], upd_same, ?_, ?_, ?_⟩⟩⟩
  · rw [upd_ne hne, upd_same]
  · rwa [upd_ne hne] at hd
  · have hd' : H1 dx = none := by rwa [upd_ne hne] at hd
    obtain ⟨m2, f2, x2⟩ := exc_end (f := f) (o1 := exo a C none) (o2 := exd dx [(f, v)]) (o3 := exo a C (some dx)) m1 hv na hd' hne
    exact Fin.rse0 (q _ hP) m2 ((s.fr f1).fr f2) (f1.trans f2) x2
end
end J
/-! J72: raise X(), an own class under ArithmeticError without an __init__ of its own. -/
namespace J
open PySem PySem.Spec
open PyProof.Rows L2
structure Exc0 (K : PySem.W.Frag) (mg : Str → Option Value) (n : Str) (C : Addr) : Prop where
  ok : PySem.W.excIn K C (OG.lineOf "ArithmeticError") "ArithmeticError.__new__" = true
  at_ : mg n = some (.ref C)
  kC : PySem.W.keepIn K (.ref C) = true
  exC : PySem.W.subIn K (.ref C) (.type "BaseException") = some true
  tyC : PySem.W.typeIn K (.ref C) = some (.type "type")
section
variable {X : Cx} {W : WX} {ρ : REnv} {μ : Sto} {pos p pos' : Pos} {n : Str} {C : Addr} {nn : Nat} {P : Out → Prop} {rest : List Stmt}
theorem pmk_own0 (M : Exc0 X.K X.mg n C) (hg : Gl X n) (hdb : (n == ("__debug__" : Str)) = false := by decide) : L2N.PMk X (.Call (.Name n p) [] [] pos) (fun _ H Q => Q (.ref C) none H) := by
  intro pins s σ H Q I h
  refine wpAny_Call_Name_kw (ld_glob I hg M.at_ (PySem.W.callWith_K0 I.kIn M.kC ?_) hdb)
  show wpAny _ _ (call (.ref C) []) _ _ _
  obtain ⟨bm, N, nm, qn, bs, hdct, sn, sub, ab, col, dd, k0, k1, k2, k3, k5, mN, hC, hN, hni, T⟩ := exc_obj I.kIn M.ok
  obtain ⟨h0, g0, d0, t0, o0⟩ := s
  refine wpAny_call_exc_subT F.excBase_ArithmeticError T hC hN hni (fun h' e hm => ?_) (by show 0 ≤ sizeLine; omega)
  exact L2N.mk_of I hm (raises_own M.exC M.tyC) h (I.hok.gone hm.new)
theorem ST.raise0 (M : Exc0 X.K X.mg n C) (tk : L2N.Takes X W) (hP : P (.rse ρ μ C [])) (hc : X.calm = true := by rfl) (hg : Gl X n := by rfl) (hdb : (n == ("__debug__" : Str)) = false := by decide) : ST X W nn (.Raise (some (.Call (.Name n p) [] [] pos)) none pos' :: rest) ρ μ P := by
  intro w σ H D hn m s q
  refine ⟨_, pss_cons (L2N.ps_raise hc tk (pmk_own0 M hg hdb)) pss_never, ?_⟩
  exact Fin.rse0 (od := none) (q _ hP) m s .refl rfl
end
end J
/-! J28: xs.count(x), xs.index(x) of flat data; repr of any data; a caught exception in a def that got it. -/
namespace J
open PySem PySem.Spec
open PyProof.Rows L2
theorem count_rel {y : V} : ∀ {ys : List V} {us : List Value}, Vals ys us → ys.all flatV = true → us.countP (eqU y) = ys.countP fun z => eqV z y
  | _, _, .nil, _ => rfl
  | z :: ys, u :: us, .cons r t, f => by
    rw [List.all_cons, Bool.and_eq_true] at f
    have ih := count_rel (y := y) t f.2
    rw [List.countP_cons, List.countP_cons, ih, eqU_of r f.1]
theorem mt_cntF {X : Cx} : MtR X "list.count" (fun x xs H Q => ∃ (c : Addr) (ys : List V) (y : V), x = V.ref c ∧ xs = [y] ∧ SqL X.K H c ys ∧ flatV y = true ∧ ys.all flatV = true ∧ Q (.int ((ys.countP fun z => eqV z y : Nat) : Int)) H) := by
  intro pins s0 σ H x xs v us Q I r1 r2 hh
  obtain ⟨c, ys, y, rfl, rfl, seq, fy, fys, hq⟩ := hh
  cases r1
  obtain ⟨u, rfl, ru⟩ := vals1 r2
  obtain ⟨items, rv, ⟨⟨cl, od, da, sl⟩, n, ho, hc, hdn, hd⟩, hlen⟩ := I.list seq
  simp only at hc hd
  subst hc hd
  refine call_meets PySem.F.slot_list_count ⟨_, ho, rfl⟩ PySem.F.entry_list_count (PySem.F.args_list_count_2 _ _) (SeqAt.list_countAt c items.toArray n od sl u (eqU y)) ⟨ho, fun z hz => mem_eqAt ru fy rv fys z (by simpa using hz), ?_⟩
  have ec := count_rel (y := y) rv fys
  refine ⟨.int ((ys.countP fun z => eqV z y : Nat) : Int), H, I.tok _, ⟨s0.toks, ?_⟩, hq⟩
  rw [← ec]
theorem dq_count {H : Hp} {v : V} {d : PyData} (h : Dq H v d) : ∀ {vs : List V} {ds : List PyData}, DqAll H vs ds → (vs.countP fun z => eqV z v) = ds.countP fun z => eqF z d
  | [], _, g => by cases g; rfl
  | u :: vs, _, g => by
    cases g with
    | cons g1 g2 => rw [List.countP_cons, List.countP_cons, dq_count h g2, dq_eqF g1 h]
section
variable {X : Cx} {W : WX} {ρ : REnv} {μ μ1 μ2 : Sto} {o e : Expr} {d : PyData} {ds : List PyData} {pos apos p p2 : Pos} {k : Nat}
theorem EV.cnt (ho : EV X o ρ μ (Ls ds) μ1) (he : EV X e ρ μ1 (.dat d) μ2) (h1 : flatD d = true) (h2 : ds.all flatD = true) (hb : attributeBase o "count" X.env (eval o X.env) = eval o X.env := by rfl)
    (hfew : ((backTo pos (starEach [e] X.env)).all (fun x => !x.1) && (backToKw pos (keywordEach [] X.env)).all (fun x => x.1.isSome) && decide ([e].length + ([] : List Keyword).length + (if ([] : List Keyword).isEmpty then 0 else 1) < 30)) = true := by rfl)
    (hl : (apos.endLine == pos.line) = true := by rfl) (hs : starEach [e] X.env = (false, eval e X.env) :: starEach [] X.env := by rfl) (hp : (backTo pos (starEach [] X.env)).any (·.1) = false := by rfl) : EV X (.Call (.Attribute o "count" apos) [e] [] pos) ρ μ (Ii ((ds.countP fun z => eqF z d : Nat) : Int)) μ2 := by
  intro w σ H m s Q q
  refine ⟨_, pe_bm PySem.F.plainAttrs_list PySem.F.slot_list_count PySem.F.type_list_count mt_cntF (p_ex (e := o)) (pa_cons (p_ex (e := e)) pa_nil hs) hb hfew hl hs hp, ?_⟩
  refine ho w σ H m s _ fun v H1 m1 f1 h3 => ?_
  have h3' := h3
  cases h3 with
  | @lst c vs _ hc hd =>
    refine ⟨.inl ⟨rfl, vs, SqL.of (dl_some hc).2⟩, ?_⟩
    refine he w σ H1 m1 (s.fr f1) _ fun u H2 m2 f2 h4 => ?_
    have h5 : Val X.K H2 w (.ref c) (Ls ds) := h3'.fr f2
    cases h5 with
    | @lst _ vs2 _ hc2 hd2 => exact ⟨c, vs2, u, rfl, rfl, SqL.of (dl_some hc2).2, by rw [dq_flat h4, h1], by rw [dq_allFlat hd2, h2], by rw [dq_count h4 hd2]; exact q _ H2 m2 (f1.trans f2) (Dq.int _)⟩
theorem EV.idx {j : Nat} {z : PyData} (ho : EV X o ρ μ (Ls ds) μ1) (he : EV X e ρ μ1 (.dat d) μ2) (h1 : flatD d = true) (h2 : ds.all flatD = true) (hj : ds[j]? = some z) (hz : eqF z d = true) (hno : ∀ (m : Nat) (y : PyData), m < j → ds[m]? = some y → eqF y d = false) (hb : attributeBase o "index" X.env (eval o X.env) = eval o X.env := by rfl)
    (hfew : ((backTo pos (starEach [e] X.env)).all (fun x => !x.1) && (backToKw pos (keywordEach [] X.env)).all (fun x => x.1.isSome) && decide ([e].length + ([] : List Keyword).length + (if ([] : List Keyword).isEmpty then 0 else 1) < 30)) = true := by rfl)
    (hl : (apos.endLine == pos.line) = true := by rfl) (hs : starEach [e] X.env = (false, eval e X.env) :: starEach [] X.env := by rfl) (hp : (backTo pos (starEach [] X.env)).any (·.1) = false := by rfl) : EV X (.Call (.Attribute o "index" apos) [e] [] pos) ρ μ (Ii (j : Int)) μ2 := by
  intro w σ H m s Q q
  refine ⟨_, pe_bm PySem.F.plainAttrs_list PySem.F.slot_list_index PySem.F.type_list_index mt_index (p_ex (e := o)) (pa_cons (p_ex (e := e)) pa_nil hs) hb hfew hl hs hp, ?_⟩
  refine ho w σ H m s _ fun v H1 m1 f1 h3 => ?_
  have h3' := h3
  cases h3 with
  | @lst c vs _ hc hd =>
    refine ⟨.inl ⟨rfl, vs, SqL.of (dl_some hc).2⟩, ?_⟩
    refine he w σ H1 m1 (s.fr f1) _ fun u H2 m2 f2 h4 => ?_
    have h5 : Val X.K H2 w (.ref c) (Ls ds) := h3'.fr f2
    cases h5 with
    | @lst _ vs2 _ hc2 hd2 =>
      obtain ⟨zv, hzv, hzd⟩ := dqAll_get hd2 hj
      refine ⟨c, vs2, u, j, zv, rfl, rfl, SqL.of (dl_some hc2).2, by rw [dq_flat h4, h1], by rw [dq_allFlat hd2, h2], hzv, by rw [dq_eqF hzd h4, hz], fun m y hm hy => ?_, q _ H2 m2 (f1.trans f2) (Dq.int _)⟩
      obtain ⟨dy, hdy, hyd⟩ := dqAll_getV hd2 hy
      rw [dq_eqF hyd h4]
      exact hno m dy hm hdy
/-- what can be shown by repr -/
structure Sho (d : PyData) : Prop where
  lay : d.canLay0 = true
  shw : d.showable = true
  dep : d.depth ≤ 60
  len : rlen d ≤ 10000000
  int : ∀ i : Int, d = .int i → i.natAbs.log2 < 1920
theorem Shw.sho {d : PyData} (h : Shw d) : Sho d := ⟨h.lay, h.shw, h.dep, h.len, fun i z => by have := h.seq; rw [z] at this; cases this⟩
theorem EV.reprX (T : X.mg "repr" = none) (hgd : X.A.guards = some []) (hun : X.A.units + 100 < cLine) (ho : EV X o ρ μ (.dat d) μ1) (hd : Sho d) (hg : Gl X "repr" := by rfl) (hs : starEach [o] X.env = (false, eval o X.env) :: starEach [] X.env := by rfl) : EV X (.Call (.Name "repr" p) [o] [] pos) ρ μ (Ss d.shown) μ1 := by
  intro w σ H m s Q q
  have hsz : d.shown.length ≤ sizeLine := Nat.le_trans (Nat.le_trans (shown_le d hd.lay) hd.len) (by decide)
  have cr : CallR X (.builtin "repr") (fun vs H Q => ∃ v, vs = [v] ∧ Dp X.K H v d ∧ Dq H v d ∧ Q (.str d.shown) H) := by
    intro pins s σ H xs us Q I r h
    obtain ⟨v, rfl, hdp, hdq, hq⟩ := h
    obtain ⟨u, rfl, ru⟩ := vals1 r
    have big : ∀ a : Addr, v = V.ref a → wpAny (model X.prog X.w) X.A (PySem.call (.builtin "repr") [u]) (EP X pins σ Q) X.xe s := fun a ea => by
      subst ea
      obtain rfl : u = Value.ref a := ru
      obtain ⟨as, rd⟩ := Dp.reads I d _ _ hdp (show RelV (V.ref a) (Value.ref a) from rfl)
      refine repr_of_reads' rd hd.shw (fun z => by rw [noDict0 d hd.lay] at z; cases z) hgd ?_ (fun _ _ e => e) (fun h' u tk kp => ?_) hsz
      · have h1 := hd.dep
        omega
      · exact ⟨.str d.shown, H, I.kept (t' := tk) kp, ⟨u, rfl⟩, hq⟩
    cases hdq with
    | non =>
      obtain rfl : u = Value.none := ru
      exact PySem.P.repr_of_none ⟨.str _, H, I.tok _, ⟨_, rfl⟩, by rw [PyData.shown_none] at hq; exact hq⟩
    | bl b =>
      obtain rfl : u = Value.bool b := ru
      exact PySem.P.repr_of_bool ⟨.str _, H, I.tok _, ⟨_, rfl⟩, by rw [PyData.shown_bool] at hq; exact hq⟩
    | int i =>
      obtain ⟨t, rfl⟩ := ru
      exact PySem.P.repr_of_int (hd.int i rfl) ⟨.str _, H, I.tok _, ⟨_, rfl⟩, by rw [PyData.shown_int] at hq; exact hq⟩
    | str x =>
      obtain ⟨t, rfl⟩ := ru
      exact PySem.P.repr_of_str ⟨.str _, H, I.tok _, ⟨_, rfl⟩, by rw [PyData.shown_str] at hq; exact hq⟩ (by rw [PyData.shown_str] at hsz; exact hsz)
    | lst _ _ => exact big _ rfl
    | tup _ _ => exact big _ rfl
    | exn _ _ _ _ =>
      have := hd.lay
      simp [PyData.canLay0] at this
    | ex0 _ =>
      have := hd.lay
      simp [PyData.canLay0] at this
    | ins _ _ _ =>
      have := hd.lay
      simp [PyData.canLay0] at this
    | dic _ _ _ =>
      have := hd.lay
      simp [PyData.canLay0] at this
  refine ⟨_, pe_callB cr hg T (by decide +kernel) (pa_cons (p_ex (e := o)) pa_nil hs) (by decide) (by decide) hs (by rfl), ?_⟩
  refine ho w σ H m s _ fun v H1 m1 f1 h1 => ?_
  have h1' : Dq (dl H1 w.all) v d := h1
  exact ⟨v, rfl, Dq.dp dl_same _ _ h1' hd.lay, dq_mono dl_same _ _ h1', q _ H1 m1 f1 (Dq.str _)⟩
end
end J
/-! J29: a def that gets a caught exception, while it is handled. -/
namespace J
open PySem PySem.Spec
open PyProof.Rows L2
/-- a class by its name -/
def ClsAt (mg : Str → Option Value) (n : Str) (cv : Value) : Prop := (n == ("__debug__" : Str)) = false ∧ ((∃ T, cv = .ref T ∧ mg n = some (.ref T)) ∨ (∃ T : String, cv = .type T ∧ mg n = none ∧ bootBuiltins n = some (.type T) ∧ n ≠ "__name__"))
/-- what e is -/
structure ExE (X : Cx) (D : Addr) (a d : Addr) : Prop where
  cls : ExcC X.K D
  xfc : XfC X.K D
  pin : ∃ oe : Obj, (a, oe) ∈ X.pn ∧ Zc (.ref D) (some d) oe ∧ ∃ vs, oe.data = .fields vs
section
variable {X : Cx} {ρ : REnv} {μ μ1 : Sto} {a d D : Addr} {fs : List (Str × PyData)} {o : Expr} {n f : Str} {cv : Value} {b : Bool} {pos p p2 : Pos} {dt : PyData}
theorem call_isP (M : ExE X D a d) : CallR X (.builtin "isinstance") (fun xs H Q => ∃ (c : V) (cv : Value) (b : Bool), (∃ ws : List (Str × V), H d = some (.xd ws)) ∧ xs = [.ref a, c] ∧ (∀ u, RelV c u → u = cv) ∧ PySem.W.kitOne X.K (.ref D) cv = some b ∧ Q (.bl b) H) := by
  intro pins s0 σ H xs us Q I r hh
  obtain ⟨c, cv, b, ⟨ws, hx⟩, rfl, hcv, hk, hq⟩ := hh
  obtain ⟨u1, u2, rfl, r1, r2⟩ := vals2 r
  obtain rfl : u1 = Value.ref a := r1
  obtain rfl := hcv _ r2
  obtain ⟨oe, hp, hz, vs, hd⟩ := M.pin
  have C := M.cls
  obtain ⟨hget, _⟩ := I.pin (a, oe) (List.mem_append_left _ hp)
  have hx' : ObjOk X.prog X.w H s0.heap d (.xd ws) := I.hok d _ hx
  obtain ⟨mA, hns, hr⟩ := hx'
  obtain ⟨od, ho, _⟩ := lookIn_ns hns
  have J0 : PySem.W.InstAt s0.heap a oe D (some od) := ⟨hget, hz.1, by unfold PySem.W.notCls; rw [hd] <;> rfl, by rw [hz.2]; exact ho⟩
  have hcl : (PySem.W.clsIn X.K D).isSome = true := by
    obtain ⟨cd, hc, _⟩ := PySem.W.any_some C.hd
    rw [hc]
    rfl
  exact PySem.W.kia_one (PySem.W.kitx_exc hcl C.hg C.hk C.hs C.ha C.hn C.ht C.hm) I.kIn J0 hk (fun z => nomatch z) fun tk => ⟨.bl b, H, I.kept (t' := tk) fun _ _ z => z, rfl, hq⟩
/-- isinstance(e, T) -/
theorem EV.isE (M : ExE X D a d) (T : X.mg "isinstance" = none) (N : ClsAt X.mg n cv) (hk : PySem.W.kitOne X.K (.ref D) cv = some b) (ho : EV X o ρ μ (.exc a d fs) μ1) (hg : Gl X "isinstance" := by rfl) (hgT : Gl X n := by rfl)
    (he : starEach [o, .Name n p2] X.env = (false, eval o X.env) :: starEach [.Name n p2] X.env := by rfl) (he2 : starEach [.Name n p2] X.env = (false, eval (.Name n p2) X.env) :: starEach [] X.env := by rfl) (hpl : (backTo pos (starEach [.Name n p2] X.env)).any (·.1) = false := by rfl) : EV X (.Call (.Name "isinstance" p) [o, .Name n p2] [] pos) ρ μ (Bb b) μ1 := by
  intro w σ H m s Q q
  obtain ⟨hdb, ⟨c, rfl, hm⟩ | ⟨c, rfl, hm, hv, hn⟩⟩ := N
  · refine ⟨_, pe_callB (call_isP M) hg T (by decide +kernel) (pa_cons (p_ex (e := o)) (pa_cons (pe_glob (v := .ref c) hgT hm rfl hdb) pa_nil he2) he) (by decide) (by decide) he hpl, ?_⟩
    refine ho w σ H m s _ fun v H1 m1 f1 h1 => ?_
    exact ⟨.ref c, .ref c, b, (h1.2.elim fun ws z => ⟨ws, (dl_some z.1).2⟩), by rw [h1.1], fun u hu => hu, hk, q _ H1 m1 f1 (Dq.bl b)⟩
  · refine ⟨_, pe_callB (call_isP M) hg T (by decide +kernel) (pa_cons (p_ex (e := o)) (pa_cons (pe_bltn (v := .ty c) hgT hm hv rfl hn hdb) pa_nil he2) he) (by decide) (by decide) he hpl, ?_⟩
    refine ho w σ H m s _ fun v H1 m1 f1 h1 => ?_
    exact ⟨.ty c, .type c, b, (h1.2.elim fun ws z => ⟨ws, (dl_some z.1).2⟩), by rw [h1.1], fun u hu => hu, hk, q _ H1 m1 f1 (Dq.bl b)⟩
/-- e.f -/
theorem pe_xp {te : TE} (M : ExE X D a d) (hno : PySem.W.findIn X.K (.ref D) f = some none) (he : PE X o te) (hb : attributeBase o f X.env (eval o X.env) = eval o X.env := by rfl) :
    PE X (.Attribute o f pos) (fun σ H Q => te σ H fun x H1 => x = .ref a ∧ ∃ (ws : List (Str × V)) (v : V), H1 d = some (.xd ws) ∧ ws.lookup f = some v ∧ Q v H1) := by
  refine ⟨fun pins s0 σ H Q I hh => ?_⟩
  refine attr_of hb (thn (he.run pins s0 σ H _ I hh) fun u s1 hy => ?_)
  obtain ⟨x, H1, I1, rx, ex, ws, v, ea, lk, hq⟩ := hy
  subst ex
  obtain rfl : u = Value.ref a := rx
  obtain ⟨oe, hp, hz, vs, hd⟩ := M.pin
  have T := M.xfc
  obtain ⟨ha, _⟩ := I1.pin (a, oe) (List.mem_append_left _ hp)
  have hx : ObjOk X.prog X.w H1 s1.heap d (.xd ws) := I1.hok d _ ea
  obtain ⟨mA, hns, hr⟩ := hx
  obtain ⟨od, ho, hl⟩ := lookIn_ns hns
  obtain ⟨u, hu, ru⟩ := RelO.some_of (v := v) (o := mA f) (by rw [← lk]; exact hr f)
  have J0 : PySem.W.InstAt s1.heap a oe D (some od) := ⟨ha, hz.1, by unfold PySem.W.notCls; rw [hd] <;> rfl, by rw [hz.2]; exact ho⟩
  exact HandSPX.exc_get I1.kIn J0 T.ga T.gg T.exC (PySem.W.findObj_own T.hdC hno rfl (by rw [hl, hu])) (handed_of ru) ⟨v, H1, I1.tok _, ru, hq⟩
theorem EV.excF (M : ExE X D a d) (hno : PySem.W.findIn X.K (.ref D) f = some none) (ho : EV X o ρ μ (.exc a d fs) μ1) (hl : fs.lookup f = some dt) (hb : attributeBase o f X.env (eval o X.env) = eval o X.env := by rfl) : EV X (.Attribute o f pos) ρ μ (.dat dt) μ1 := by
  intro w σ H m s Q q
  refine ⟨_, pe_xp M hno (p_ex (e := o)) hb, ?_⟩
  refine ho w σ H m s _ fun v H1 m1 f1 h1 => ?_
  obtain ⟨rfl, ws, hx, hn, hd⟩ := h1
  obtain ⟨u, hu, hq⟩ := lk_dq hn hd hl
  exact ⟨rfl, ws, u, (dl_some hx).2, hu, q u H1 m1 f1 hq⟩
end
/-! ### the def -/
/-- f(e), e the exception that is handled -/
structure FnE (P : Program) (w : World) (K : PySem.W.Frag) (mg : Str → Option Value) (base : Heap) (k : Nat) (f : Addr) (fd : FuncData) (x : Str) (sp : Addr × Obj → Hp → VK → Prop) : Prop where
  go : ∀ (B : Around) (st : List Env) (t : Shared) (G : Hp) (R : VK) (p : Addr × Obj), B.guards = some [] → L2H.RoomH k B → L2H.PinOk st G t p → Env0 P w K mg base B st t G → BindsTo t fd ⟨[.ref p.1], []⟩ ([x].zip [.ref p.1]) → sp p G R → codeAny (model P w) B (.call (.ref f) ⟨[.ref p.1], []⟩) (CR CX0 st P w G t R E0) t
section
variable {w : World} {P : Program} {K : PySem.W.Frag} {base : Heap} {mg : Str → Option Value}
theorem fnE_of {k : Nat} {f : Addr} {nm0 qual : Str} {prm : Arguments} {bd : List Stmt} {scp : Scope} {dV kV doc pm cdv ct oc : Value} {an od : Option Addr} {osl : Array (Option Value)} {N : List Str} {x : Str} {sp : Addr × Obj → Hp → VK → Prop}
    (look : K.lookup f = some ⟨oc, od, .func (PySem.W.fnOf nm0 qual prm bd scp dV kV doc pm an cdv ct), osl⟩) (code : PySem.W.codeIn K cdv qual = true) (Sc : FnScope N [x] scp)
    (hb : ∀ (B : Around) (st : List Env) (t : Shared) (G : Hp) (R : VK) (p : Addr × Obj), B.guards = some [] → L2H.RoomH k (B.deeper (envOfC qual scp t.heap.objs.size f cdv)) → sp p G R → ∃ T, PSs (L2H.cxH CX0 P w K mg base N qual scp f cdv B st t G E0 p) bd T ∧ T { nx := fun _ G' => R .non G', rt := R } (L2.start N [.ref p.1]) G) :
    FnE P w K mg base (k + 1) f (PySem.W.fnOf nm0 qual prm bd scp dV kV doc pm an cdv ct) x sp := by
  refine ⟨fun B st t G R p hgd room hpin e0 bind hsp => ?_⟩
  have inK : K.In t.heap := e0.mod.kin.keeps fun a o z => (e0.bs a o z).1
  have noL : t.heap.NoLimit := e0.mod.nolimit.keeps fun a o z => (e0.bs a o z).1
  refine codeAny_call_function room.depth (inK _ _ look) rfl Sc.co Sc.gen rfl (PySem.W.codeRec_of inK code) (bind _ _ _ _ ?_)
  refine wpAny_newFunctionEnv_cells Sc.kind (fun ⟨n, v⟩ hy => ?_) fun env he t1 y => ?_
  · rcases Sc.par n (List.of_mem_zip hy).1 with z | z
    · exact Or.inl z
    · exact Or.inr ⟨z, PySem.W.cellsFrom_some _ _ _ (Or.inl z)⟩
  subst he
  refine ⟨noL.keeps y.toInCall.keep, codeAny_func ?_⟩
  obtain ⟨T, hT, hr⟩ := hb B st t G R p hgd (room.deeper _) hsp
  have I : Inv (L2H.cxH CX0 P w K mg base N qual scp f cdv B st t G E0 p) [] (L2.start N [.ref p.1]) G t1 := L2H.inv_startH Sc hpin e0 rfl (.cons rfl .nil) y
  have done : ∀ {σ' : L2.St} {G' : Hp} {v : V} {u : Value} {t' : Shared}, Inv (L2H.cxH CX0 P w K mg base N qual scp f cdv B st t G E0 p) [] σ' G' t' → RelV v u → R v G' → CE st P w G t R u t' := fun {σ' G' v u t'} J0 rv hq => ⟨v, G', J0.os, J0.bare, J0.base, J0.hok, rv, hq⟩
  refine wpAny_mono (hT.run [] t1 (L2.start N [.ref p.1]) G _ I hr) (fun fl t' hs => ?_) fun e t' hs => hs
  match fl, hs with
  | .ret u, hs =>
    obtain ⟨v, σ', G', J0, rv, hq⟩ := hs
    exact done J0 rv hq
  | .next, hs =>
    obtain ⟨σ', G', J0, hq⟩ := hs
    exact done (v := V.non) (u := Value.none) J0 rfl hq
  | .brk, hs =>
    obtain ⟨_, _, _, hq⟩ := hs
    exact hq.elim
  | .cont, hs =>
    obtain ⟨_, _, _, hq⟩ := hs
    exact hq.elim
theorem funE {x qual n : Str} {st : Stmt} {f : Addr} {fd : FuncData} {N : List Str} {k : Nat} {sp : Addr × Obj → Hp → VK → Prop} (F : Fun K n qual st f fd) (Sc : FnScope N [x] (defScope st))
    (hb : ∀ (cdv : Value) (B : Around) (o : List Env) (t : Shared) (G : Hp) (R : VK) (p : Addr × Obj), B.guards = some [] → L2H.RoomH k (B.deeper (envOfC qual (defScope st) t.heap.objs.size f cdv)) → sp p G R →
      ∃ T, PSs (L2H.cxH CX0 P w K mg base N qual (defScope st) f cdv B o t G E0 p).nox (defBody st) T ∧ T { nx := fun _ G' => R .non G', rt := R } (L2.start N [.ref p.1]) G) : FnE P w K mg base (k + 1) f fd x sp := by
  obtain ⟨oc, od, kV, doc, pm, an, cdv, ct, osl, rfl, lk, hcd⟩ := F.ex
  refine fnE_of lk hcd Sc fun B o t G R p hgd room hsp => ?_
  obtain ⟨T, hT, hq⟩ := hb cdv B o t G R p hgd room hsp
  exact ⟨T, hT.nox, hq⟩
end
/-- f(e) in the suite of the clause that caught e -/
theorem pe_callE {X : Cx} {a : Addr} {oe : Obj} {pn : List (Addr × Obj)} {k : Nat} {f : Addr} {fd : FuncData} {x n y : Str} {i : Nat} {sp : Addr × Obj → Hp → VK → Prop} {pos p p2 : Pos} (F : FnE X.prog X.w X.K X.mg X.base k f fd x sp) (hgd : X.A.guards = some []) (hr : L2H.RoomH k X.A) (hg : Gl X n) (hm : X.mg n = some (.ref f)) (hk : PySem.W.keepIn X.K (.ref f) = true) (hb : Binds X.K fd [x] [])
    (hN : X.N[i]? = some y) (hv : Vis X.env.scope y) (hdb : (n == ("__debug__" : Str)) = false := by decide) (hd : (y == ("__debug__" : Str)) = false := by decide) (hcd : (y == ("__classdict__" : Str)) = false := by decide) (he : starEach [.Name y p2] (X.suite a ((a, oe) :: pn)).env = (false, eval (.Name y p2) (X.suite a ((a, oe) :: pn)).env) :: starEach [] (X.suite a ((a, oe) :: pn)).env := by rfl) (hpl : (backTo pos (starEach [] (X.suite a ((a, oe) :: pn)).env)).any (·.1) = false := by rfl) :
    PE (X.suite a ((a, oe) :: pn)) (.Call (.Name n p) [.Name y p2] [] pos) (fun σ H Q => σ[i]? = some (some (.ref a)) ∧ sp (a, oe) H Q) := by
  refine ⟨fun pins s0 σ H Q I hh => ?_⟩
  obtain ⟨hσ, hsp⟩ := hh
  refine wpAny_Call_Name_kw (ld_glob I hg hm ?_ hdb)
  refine PySem.W.callWith_K (h₀ := X.base) I.ok.mod.kin hk (thn ((pa_cons (pe_var (pos := p2) (X := X.suite a ((a, oe) :: pn)) (i := i) hN hv hd hcd) pa_nil he).run pos pins s0 σ H (fun vs H1 => vs = [.ref a] ∧ H1 = H) I ⟨_, hσ, rfl, rfl⟩) fun us s1 ⟨vs, H1, I1, r, ev, eH⟩ => ⟨I1.kIn, ?_⟩) he hpl
  subst ev
  subst eH
  obtain ⟨u, rfl, ru⟩ := vals1 r
  obtain rfl : u = Value.ref a := ru
  have b := hb s1 [.ref a] I1.kIn rfl
  rw [List.append_nil] at b
  have P1 := I1.pin (a, oe) (List.mem_append_left _ List.mem_cons_self)
  have hpin : L2H.PinOk X.stack H1 s1 (a, oe) := ⟨P1.1, P1.2.1, fun hm => (List.mem_cons.mp (I1.stkSub a hm)).elim P1.2.2.1 P1.2.2.2.1, P1.2.2.2.2⟩
  refine wpAny_call (codeAny_mono (F.go (X.suite a ((a, oe) :: pn)).A X.stack s1 H1 Q (a, oe) hgd ⟨hr.dp, hr.un⟩ hpin I1.env0 b hsp) fun z s2 hy => ?_)
  match z, hy with
  | .ok (.ret u), hy => exact I1.after hy
end J
/-! J73: a caught exception that keeps nothing; two wishes of one def; a, b = a list. -/
namespace J
open PySem PySem.Spec
open PyProof.Rows L2
structure ExE0 (X : Cx) (D : Addr) (a : Addr) : Prop where
  cls : ExcC X.K D
  pin : ∃ oe : Obj, (a, oe) ∈ X.pn ∧ Zc (.ref D) none oe ∧ ∃ vs, oe.data = .fields vs
section
variable {X : Cx} {ρ : REnv} {μ μ1 : Sto} {a D : Addr} {o : Expr} {n : Str} {cv : Value} {b : Bool} {pos p p2 : Pos}
theorem call_isP0 (M : ExE0 X D a) : CallR X (.builtin "isinstance") (fun xs H Q => ∃ (c : V) (cv : Value) (b : Bool), xs = [.ref a, c] ∧ (∀ u, RelV c u → u = cv) ∧ PySem.W.kitOne X.K (.ref D) cv = some b ∧ Q (.bl b) H) := by
  intro pins s0 σ H xs us Q I r hh
  obtain ⟨c, cv, b, rfl, hcv, hk, hq⟩ := hh
  obtain ⟨u1, u2, rfl, r1, r2⟩ := vals2 r
  obtain rfl : u1 = Value.ref a := r1
  obtain rfl := hcv _ r2
  obtain ⟨oe, hp, hz, vs, hd⟩ := M.pin
  have C := M.cls
  obtain ⟨hget, _⟩ := I.pin (a, oe) (List.mem_append_left _ hp)
  have J0 : PySem.W.InstAt s0.heap a oe D none := ⟨hget, hz.1, by unfold PySem.W.notCls; rw [hd] <;> rfl, by rw [hz.2]; trivial⟩
  have hcl : (PySem.W.clsIn X.K D).isSome = true := by
    obtain ⟨cd, hc, _⟩ := PySem.W.any_some C.hd
    rw [hc]
    rfl
  exact PySem.W.kia_one (PySem.W.kitx_exc hcl C.hg C.hk C.hs C.ha C.hn C.ht C.hm) I.kIn J0 hk (fun z => nomatch z) fun tk => ⟨.bl b, H, I.kept (t' := tk) fun _ _ z => z, rfl, hq⟩
theorem EV.isE0 (M : ExE0 X D a) (T : X.mg "isinstance" = none) (N : ClsAt X.mg n cv) (hk : PySem.W.kitOne X.K (.ref D) cv = some b) (ho : EV X o ρ μ (.raw (.ref a)) μ1) (hg : Gl X "isinstance" := by rfl) (hgT : Gl X n := by rfl)
    (he : starEach [o, .Name n p2] X.env = (false, eval o X.env) :: starEach [.Name n p2] X.env := by rfl) (he2 : starEach [.Name n p2] X.env = (false, eval (.Name n p2) X.env) :: starEach [] X.env := by rfl) (hpl : (backTo pos (starEach [.Name n p2] X.env)).any (·.1) = false := by rfl) : EV X (.Call (.Name "isinstance" p) [o, .Name n p2] [] pos) ρ μ (Bb b) μ1 := by
  intro w σ H m s Q q
  obtain ⟨hdb, ⟨c, rfl, hm⟩ | ⟨c, rfl, hm, hv, hn⟩⟩ := N
  · refine ⟨_, pe_callB (call_isP0 M) hg T (by decide +kernel) (pa_cons (p_ex (e := o)) (pa_cons (pe_glob (v := .ref c) hgT hm rfl hdb) pa_nil he2) he) (by decide) (by decide) he hpl, ?_⟩
    refine ho w σ H m s _ fun v H1 m1 f1 h1 => ?_
    exact ⟨.ref c, .ref c, b, by rw [show v = V.ref a from h1], fun u hu => hu, hk, q _ H1 m1 f1 (Dq.bl b)⟩
  · refine ⟨_, pe_callB (call_isP0 M) hg T (by decide +kernel) (pa_cons (p_ex (e := o)) (pa_cons (pe_bltn (v := .ty c) hgT hm hv rfl hn hdb) pa_nil he2) he) (by decide) (by decide) he hpl, ?_⟩
    refine ho w σ H m s _ fun v H1 m1 f1 h1 => ?_
    exact ⟨.ty c, .type c, b, by rw [show v = V.ref a from h1], fun u hu => hu, hk, q _ H1 m1 f1 (Dq.bl b)⟩
end
theorem FnE.or {P : Program} {w : World} {K : PySem.W.Frag} {mg : Str → Option Value} {base : Heap} {k : Nat} {f : Addr} {fd : FuncData} {x : Str} {sp sp2 : Addr × Obj → Hp → VK → Prop} (A : FnE P w K mg base k f fd x sp) (B : FnE P w K mg base k f fd x sp2) : FnE P w K mg base k f fd x (fun p G R => sp p G R ∨ sp2 p G R) :=
  ⟨fun b st t G R p h1 h2 h3 h4 h5 h6 => h6.elim (fun z => A.go b st t G R p h1 h2 h3 h4 h5 z) fun z => B.go b st t G R p h1 h2 h3 h4 h5 z⟩
section
variable {X : Cx} {ρ ρ1 : REnv} {ds : List PyData} {pos : Pos} {tgs : List Expr} {is : List Nat}
theorem GV.unl {k : Nat} (h : GsV X tgs ds ρ ρ1 is) (hc : X.calm = true := by rfl) (hn : (assignEach tgs X.env).length = ds.length := by rfl) (hst : (assignEach tgs X.env).findIdx? (·.1) = none := by rfl) : GV X (.Tuple tgs k pos) (.list ds) ρ ρ1 is := by
  intro w σ H μ v m s hv Q q
  cases hv with
  | lst ha hd =>
    refine ⟨_, pg_unl hc (p_gsx (e := tgs)) hn hst, ?_⟩
    exact ⟨_, _, rfl, SqL.of (dl_some ha).2, dqAll_len hd, h w σ H μ _ m s hd Q q⟩
end
end J
/-! J93: errors that are made by a call with keywords. -/
namespace PySem
namespace OGK
open PySem.Calls PyProof.Rows Builtin PySem.HandSPX
section
variable {M : Model} {prog : Program} {w : World} {A : Around} {E : Value → Shared → Prop} {R : Result → Shared → Prop} {h : Heap} {g : Array GenState} {d : Drawn} {t : Nat} {os : OsState}
variable {nm q : Str} {C N : Addr} {bs bm bmB : List Value} {hdct : Bool} {sn : List Str} {sub : List Value} {ab : Bool} {col : Option Bool} {dd : Option Addr} {k0 k1 k2 k3 k5 : Option Value} {B newId initId : String} {kws : List (Str × Value)}
theorem check_newK (F : ExcBaseFacts B newId initId bmB) (hT : ∀ X : String, bm.contains (.type X) = bmB.contains (.type X)) {Q : Unit → Shared → Prop}
    (hC : h.get? C = some (excClassObj nm q C N bs bm hdct sn sub ab col dd k0 k1 k2 k3 k5 newId)) (hq : Q () ⟨h, g, d, t, os⟩) : wpAny M A (checkBuiltinCall newId ⟨[.ref C], kws⟩) Q E ⟨h, g, d, t, os⟩ := by
  have hcont : (Value.ref C :: bm).contains (.type B) = true := by rw [List.contains_cons, hT, F.hasB, Bool.or_true]
  have hstar := F.noStar
  simp only [checkBuiltinCall, F.newKind, F.newSplit, F.newRow]
  repeat (first | refine wpAny_loadPart_at hC ?_ | (refine wpAny_isSubtype_exc hC ?_; rw [hcont]) | refine wpAny_staticBase_exc hC ?_ | refine wpAny_madeBy_exc hC ?_ | simp only [bne_self_eq_false, Bool.false_eq_true, if_false] | wp_step)
  exact hq
theorem new_ownK (F : ExcBaseFacts B newId initId bmB) (hT : ∀ X : String, bm.contains (.type X) = bmB.contains (.type X))
    (hC : h.get? C = some (excClassObj nm q C N bs bm hdct sn sub ab col dd k0 k1 k2 k3 k5 newId))
    (hq : R (.ok (.ret (.ref (h.objs.size + 1)))) ⟨(h.push { cls := .type "tuple", data := .seq ([] : List Value).toArray }).push
      { cls := .ref C, data := .fields #[.ref h.objs.size, .none, .none, .none, .bool false, .none] }, g, d, t, os⟩) :
    codeAny (model prog w) A (.builtin newId ⟨[.ref C], kws⟩) R ⟨h, g, d, t, os⟩ := by
  have hends := F.ends
  have hcB : (Value.ref C :: bm).contains (.type B) = true := by rw [List.contains_cons, hT, F.hasB, Bool.or_true]
  have hcA : (Value.ref C :: bm).contains (.type "AttributeError") = false := by rw [List.contains_cons, hT, F.noAttr]; rfl
  have hcN : (Value.ref C :: bm).contains (.type "NameError") = false := by rw [List.contains_cons, hT, F.noName]; rfl
  have hrest : ([] : List Value).length ≤ sizeLine := Nat.zero_le _
  refine codeAny_builtinAt F.entry ?_
  unfold Builtin.«BaseException.__new__»
  refine wpAt_bind ?_
  show wpAt _ _ _ (stack >>= _) _ _ _
  refine wpAt_bind (wpAt_stack fun p below => wpAt_of_wpAny ?_)
  wp_walk
  refine wpAt_of_wpAny ?_
  rw [F.owner]
  repeat (first | with_reducible refine wpAny_madeHere_exc F.canon hC ?_ | with_reducible refine wpAny_loadPart_at hC ?_ | (with_reducible refine wpAny_isSubtype_exc hC ?_; first | rw [hcB] | rw [hcA] | rw [hcN]) | wp_step)
  show R _ _
  rw [Heap.size_push]
  exact hq
theorem type_callK (F : ExcBaseFacts B newId initId bmB) (hT : ∀ X : String, bm.contains (.type X) = bmB.contains (.type X)) {fI : Addr} {Q : Fin → Shared → Prop}
    (hC : h.get? C = some (excClassObj nm q C N bs bm hdct sn sub ab col dd k0 k1 k2 k3 k5 newId))
    (hi : W.Looks (model prog w) h (typeLookup (.ref C) "__init__") (some (.ref fI))) (hb : ∀ self, W.Looks (model prog w) h (bindSpecial (.ref fI) self) (.ref fI, [self]))
    (hq : codeAny (model prog w) A (.call (.ref fI) ⟨[.ref (h.objs.size + 1)], kws⟩)
      (fun r s' => match r with | .ok (.ret v) => v = .none ∧ Q (.done (.ret (.ref (h.objs.size + 1)))) s' | .ok _ => False | .error e => E e s')
      ⟨(h.push (W.kdv_tup [])).push (excO C h.objs.size), g, d, t, os⟩) :
    wpAny (model prog w) A (Builtin.«type.__call__» ⟨[.ref C], kws⟩) Q E ⟨h, g, d, t, os⟩ := by
  repeat (first | with_reducible refine wpAny_loadPart_at hC ?_ | with_reducible refine wpAny_madeBy_exc hC ?_ | wp_step)
  refine codeAny_call_builtin_code (Code.quiet_builtin _ F.quiet) (check_newK F hT hC ?_)
  refine new_ownK F hT hC ?_
  show wpAny _ _ _ _ _ _
  have k : ∀ b o, h.get? b = some o → ((h.push (W.kdv_tup [])).push (excO C h.objs.size)).get? b = some o := fun b o e => Heap.get?_push_of_some _ (Heap.get?_push_of_some _ e)
  have hC₁ := k _ _ hC
  have hget : ((h.push (W.kdv_tup [])).push (excO C h.objs.size)).get? (h.objs.size + 1) = some (excO C h.objs.size) := by heap_get
  have hcC : (Value.ref C :: bm).contains (.ref C) = true := by simp
  have i1 := hi.keeps k
  have b1 := (hb (.ref (h.objs.size + 1))).keeps k
  unfold isInstance
  repeat (first | with_reducible refine wpAny_loadPart_at hget ?_ | (with_reducible refine wpAny_isSubtype_exc hC₁ ?_; rw [hcC]) | wp_step)
  show wpAny _ _ (typeLookup (.ref C) _) _ _ _
  refine i1.at ?_
  refine wpAny_holding (wpAny_bind (b1.at ?_))
  refine wpAny_bind (wpAny_call (codeAny_mono hq fun r s' z => ?_))
  rcases r with e | (v | _ | _ | _) <;> first | exact z | exact z.elim | skip
  obtain ⟨rfl, z⟩ := z
  first
    | exact wpAny_pure (wpAny_pure z)
    | (wp_walk; exact z)
theorem check_tcK (hC : h.get? C = some (excClassObj nm q C N bs bm hdct sn sub ab col dd k0 k1 k2 k3 k5 newId)) {Q : Unit → Shared → Prop}
    (hq : Q () ⟨h, g, d, t, os⟩) : wpAny M A (checkBuiltinCall "type.__call__" ⟨[.ref C], kws⟩) Q E ⟨h, g, d, t, os⟩ := by
  have f3 := tc_sub
  have hT : (⟨h, g, d, t, os⟩ : Shared).TypeIs (.ref C) "type" := ⟨_, hC, rfl⟩
  simp only [checkBuiltinCall, tc_kind, tc_split]
  repeat (any_goals (first | assumption | with_reducible refine wpAny_loadPart_at hC ?_ | with_reducible refine wpAny_onRaise ?_ | with_reducible refine wpAny_map ?_ | wp_step))
theorem call_ownK (F : ExcBaseFacts B newId initId bmB) (hT : ∀ X : String, bm.contains (.type X) = bmB.contains (.type X)) {fI : Addr}
    (hC : h.get? C = some (excClassObj nm q C N bs bm hdct sn sub ab col dd k0 k1 k2 k3 k5 newId))
    (hi : W.Looks (model prog w) h (typeLookup (.ref C) "__init__") (some (.ref fI))) (hb : ∀ self, W.Looks (model prog w) h (bindSpecial (.ref fI) self) (.ref fI, [self]))
    (hq : codeAny (model prog w) (A.under (.builtin "type.__call__" ⟨[.ref C], kws⟩)) (.call (.ref fI) ⟨[.ref (h.objs.size + 1)], kws⟩) (W.InitBack (h.objs.size + 1) R)
      ⟨(h.push (W.kdv_tup [])).push (excO C h.objs.size), g, d, t, os⟩) :
    codeAny (model prog w) A (.call (.ref C) ⟨[], kws⟩) R ⟨h, g, d, t, os⟩ := by
  have f1 := tc_lookup
  have f2 := tc_bind (.ref C)
  have hTy : (⟨h, g, d, t, os⟩ : Shared).TypeIs (.ref C) "type" := ⟨_, hC, rfl⟩
  refine codeAny_of_tree ?_
  show wpAny _ _ (callAny (.ref C) _) _ _ _
  repeat (any_goals (first | assumption | with_reducible refine wpAny_loadPart_at hC ?_ | wp_step))
  refine ⟨rfl, ?_⟩
  refine codeAny_call_builtin_at (Code.quiet_builtin _ (by decide +kernel)) entry_typeCall (check_tcK hC (type_callK F hT hC hi hb ?_))
  refine codeAny_mono hq fun r s' z => ?_
  rcases r with e | (v | _ | _ | _) <;> exact z
end
end OGK
end PySem
/-! J94: errors as data: made by calls, asked for their class, for what they keep. -/
namespace J
open PySem PySem.Spec
open PyProof.Rows L2
def exD (C : Addr) (fs : List (Str × PyData)) : PyData := .dict ((.bool true, .int (C : Nat)) :: ((fs.map (·.1)).map .str).zip (fs.map (·.2)))
def ex0D (C : Addr) : PyData := .dict [(.bool false, .int (C : Nat))]
theorem dq_exD {H : Hp} {v : V} {C : Addr} {fs : List (Str × PyData)} (h : Dq H v (exD C fs)) : ∃ (a d : Addr) (ws : List (Str × V)), v = .ref a ∧ H a = some (exo a C (some d)) ∧ H d = some (exd d ws) ∧ ws.map (·.1) = fs.map (·.1) ∧ DqAll H (ws.map (·.2)) (fs.map (·.2)) := by
  unfold exD at h
  generalize e : PyData.dict ((PyData.bool true, PyData.int (C : Nat)) :: ((fs.map (·.1)).map PyData.str).zip (fs.map (·.2))) = d at h
  cases h with
  | @exn a dd C' ws ns ds ha hx hn hd =>
    injection e with e
    injection e with e1 e2
    injection e1 with _ e1
    injection e1 with e1
    have hl : ns.length = ds.length := by rw [← hn, List.length_map, ← dqAll_len hd, List.length_map]
    obtain ⟨q1, q2⟩ := zip_inj (by simp) hl e2
    have : C = C' := by exact Int.ofNat.inj e1
    subst this
    subst q2
    exact ⟨a, dd, ws, rfl, ha, hx, by rw [hn, q1], hd⟩
  | ins _ _ _ => injection e with e; injection e with e1 e2; cases e1
  | ex0 _ => injection e with e; injection e with e1 e2; cases e1
  | @dic a kvs ks ds hx hn hd =>
    exfalso
    injection e with e
    cases ks with
    | nil => simp at e
    | cons k ks =>
      cases ds with
      | nil => simp at e
      | cons d ds =>
        simp only [List.map_cons, List.zip_cons_cons, List.cons.injEq, Prod.mk.injEq] at e
        obtain ⟨⟨e, _⟩, _⟩ := e
        cases k <;> cases e
  | _ => cases e
theorem dq_ex0D {H : Hp} {v : V} {C : Addr} (h : Dq H v (ex0D C)) : ∃ a : Addr, v = .ref a ∧ H a = some (exo a C none) := by
  unfold ex0D at h
  generalize e : PyData.dict [(PyData.bool false, PyData.int (C : Nat))] = d at h
  cases h with
  | @exn a dd C' ws ns ds ha hx hn hd => injection e with e; injection e with e1 e2; cases e1
  | ins _ _ _ => injection e with e; injection e with e1 e2; cases e1
  | @ex0 a C' ha =>
    injection e with e
    injection e with e1 e2
    injection e1 with _ e1
    injection e1 with e1
    have : C = C' := by exact Int.ofNat.inj e1
    subst this
    exact ⟨a, rfl, ha⟩
  | @dic a kvs ks ds hx hn hd =>
    exfalso
    injection e with e
    cases ks with
    | nil => simp at e
    | cons k ks =>
      cases ds with
      | nil => simp at e
      | cons d ds =>
        simp only [List.map_cons, List.zip_cons_cons, List.cons.injEq, Prod.mk.injEq] at e
        obtain ⟨⟨e, _⟩, _⟩ := e
        cases k <;> cases e
  | _ => cases e
theorem exo_nt {a C : Addr} {d : Option Addr} : Nt (exo a C d) := fun q z => by
  have z' : HO.ext _ = HO.tbl q := z
  cases z'
theorem exd_nt {d : Addr} {fs : List (Str × V)} : Nt (exd d fs) := fun q z => by
  have z' : HO.ext _ = HO.tbl q := z
  cases z'
/-! ### made -/
def tMkV (C : Addr) (sp : Sp) (ta : TA) : TE := fun σ H Q => ta σ H fun vs H1 => vs.length ≤ 1000 ∧ ∀ a, H1 a = none → sp (.ref a :: vs) (upd H1 a (exo a C none)) (fun v H2 => v = .non ∧ Q (.ref a) H2) (fun _ _ _ => False)
def tMkW (C : Addr) (n : Nat) (gV : List V → List V → List V) (sp : Sp) (tk : TA) : TE := fun σ H Q => tk σ H fun zs H1 => zs.length = n ∧ ∀ a, H1 a = none → sp (gV [.ref a] zs) (upd H1 a (exo a C none)) (fun v H2 => v = .non ∧ Q (.ref a) H2) (fun _ _ _ => False)
section
variable {X : Cx} {e : Expr} {es : List Expr} {ta tk : TA} {p pos : Pos} {kws : List Keyword} {ks : List Str} {g : List Value → List Value → List Value} {gV : List V → List V → List V}
theorem pe_mkV {Y : CXT} {x : Str} {C gI : Addr} {k : Nat} {fd : FuncData} {ps : List Str} {sp : Sp} (O : OexG X.K C) (hi : PySem.W.findIn X.K (.ref C) "__init__" = some (some (.ref gI))) (ht : PySem.W.typeIn X.K (.ref gI) = some (.type "function"))
    (Fn : FnOk X.prog X.w X.K X.mg X.base Y k gI fd ps sp) (room : Room (k + 1) X.A) (bi : Binds X.K fd ps []) (pass : Passes Y X (fun _ _ _ => False)) (glob : Gl X x) (mean : X.mg x = some (.ref C)) (args : PA X (e :: es) ta)
    (ndb : (x == ("__debug__" : Str)) = false := by decide) (st : starEach (e :: es) X.env = (false, eval e X.env) :: starEach es X.env := by rfl) (pl : (backTo pos (starEach es X.env)).any (·.1) = false := by rfl) :
    PE X (.Call (.Name x p) (e :: es) [] pos) (tMkV C sp ta) := by
  refine ⟨fun pins s0 σ0 H0 Q J hh => ?_⟩
  obtain ⟨c1, c2, c3, c4, c5, c6, c7, c8, c9, c10, c11, c12, c13, c14, c15, make, look, ⟨⟨B, iid, tail, G0, hY⟩, _, _⟩, _⟩ := O.cls
  refine wpAny_Call_Name_kw (ld_glob J glob mean ?_ ndb)
  refine PySem.W.callWith_K (h₀ := X.base) J.ok.mod.kin O.kC (thn (args.run pos pins s0 σ0 H0 _ J hh) fun vals t1 ⟨ws, G, J1, rel, _, want⟩ => ⟨J1.kIn, ?_⟩) st pl
  show wpAny _ _ (call (.ref C) vals) _ _ _
  obtain ⟨h1, gn, dw, tok, sys⟩ := t1
  have le1 : h1.objs.size ≤ h1.objs.size + 1 := Nat.le_succ _
  have want1 := want (h1.objs.size + 1) (J1.hok.fresh le1)
  have keep1 : ∀ b u, h1.get? b = some u → ((h1.push (PySem.W.kdv_tup vals)).push (PySem.HandSPX.excO C h1.objs.size)).get? b = some u := fun b u z => Heap.get?_push_of_some _ (Heap.get?_push_of_some _ z)
  have made : ((h1.push (PySem.W.kdv_tup vals)).push (PySem.HandSPX.excO C h1.objs.size)).get? (h1.objs.size + 1) = some (PySem.HandSPX.excO C h1.objs.size) := by heap_get
  have J2 : Inv X pins σ0 (upd G (h1.objs.size + 1) (exo (h1.objs.size + 1) C none)) ⟨(h1.push (PySem.W.kdv_tup vals)).push (PySem.HandSPX.excO C h1.objs.size), gn, dw, tok, sys⟩ :=
    J1.laid (o := exo (h1.objs.size + 1) C none) (a := h1.objs.size + 1) (t' := tok) (h' := (h1.push (PySem.W.kdv_tup vals)).push (PySem.HandSPX.excO C h1.objs.size)) keep1 le1 (exo_ok made)
  have rel2 : Vals (V.ref (h1.objs.size + 1) :: ws) (Value.ref (h1.objs.size + 1) :: vals) := .cons rfl rel
  have many : (Value.ref (h1.objs.size + 1) :: vals ++ []).length = ps.length := by
    have z := rel2.length
    rw [Fn.len _ _ _ _ want1] at z
    rw [List.append_nil]
    exact z.symm
  have small : vals.length ≤ sizeLine := by
    rw [← Paired.length rel, sizeLine_eq]
    omega
  have bind2 := bi _ (Value.ref (h1.objs.size + 1) :: vals) J2.kIn many
  rw [List.append_nil] at bind2
  refine wpAny_call (PySem.HandSPX.call_own G0 hY (J1.kIn _ _ look) (PySem.W.looks_findIn J1.kIn hi) (fun self => PySem.W.bind_fn J1.kIn self ht) small
    (codeAny_mono (Fn.run _ X.stack _ _ ⟨Value.ref (h1.objs.size + 1) :: vals, []⟩ (Value.ref (h1.objs.size + 1) :: vals) _ _ (fun _ _ _ => False) (room.make C vals []) (J2.env0.make C vals []) bind2 rel2 want1) fun r t3 got => ?_))
  match r, got with
  | .error er, got => exact pass pins σ0 _ _ er t3 J2 got
  | .ok (.ret u), got =>
    obtain ⟨v, H', I3, rv, ev, q3⟩ := J2.after got
    subst ev
    exact ⟨rv, ⟨V.ref (h1.objs.size + 1), H', I3, rfl, q3⟩⟩
theorem pe_mkW {Y : CXT} {x : Str} {C gI : Addr} {k : Nat} {fd : FuncData} {ps : List Str} {sp : Sp} (O : OexG X.K C) (hi : PySem.W.findIn X.K (.ref C) "__init__" = some (some (.ref gI))) (ht : PySem.W.typeIn X.K (.ref gI) = some (.type "function"))
    (Fn : FnOk X.prog X.w X.K X.mg X.base Y k gI fd ps sp) (room : Room (k + 1) X.A) (hb : KBn X.K fd ps 1 ks g gV) (pass : Passes Y X (fun _ _ _ => False)) (glob : Gl X x) (mean : X.mg x = some (.ref C)) (hkw : PK X kws tk)
    (hall : (backToKw pos (keywordEach kws X.env)).all (·.1.isSome) = true := by rfl) (hks : (backToKw pos (keywordEach kws X.env)).filterMap (·.1) = ks := by rfl) (ndb : (x == ("__debug__" : Str)) = false := by decide)
    (hpl : ((backTo pos (starEach [] X.env)).any (·.1) || (backToKw pos (keywordEach kws X.env)).any (·.1.isNone)) = false := by rfl) :
    PE X (.Call (.Name x p) [] kws pos) (tMkW C ks.length gV sp tk) := by
  refine ⟨fun pins s0 σ0 H0 Q J hh => ?_⟩
  obtain ⟨c1, c2, c3, c4, c5, c6, c7, c8, c9, c10, c11, c12, c13, c14, c15, make, look, ⟨⟨B, iid, tail, G0, hY⟩, _, _⟩, _⟩ := O.cls
  refine wpAny_Call_Name_kw (ld_glob J glob mean ?_ ndb)
  refine PySem.W.callWith_KW0 (h₀ := X.base) J.ok.mod.kin O.kC hall ?_ hpl
  refine thn (hkw.run pos pins s0 σ0 H0 _ J hh) fun vals t1 ⟨ws, G, J1, rel, hlen, want⟩ => ⟨J1.kIn, ?_⟩
  rw [hks]
  show wpAny _ _ (call (.ref C) [] (ks.zip vals)) _ _ _
  obtain ⟨h1, gn, dw, tok, sys⟩ := t1
  have le1 : h1.objs.size ≤ h1.objs.size + 1 := Nat.le_succ _
  have want1 := want (h1.objs.size + 1) (J1.hok.fresh le1)
  have keep1 : ∀ b u, h1.get? b = some u → ((h1.push (PySem.W.kdv_tup [])).push (PySem.HandSPX.excO C h1.objs.size)).get? b = some u := fun b u z => Heap.get?_push_of_some _ (Heap.get?_push_of_some _ z)
  have made : ((h1.push (PySem.W.kdv_tup [])).push (PySem.HandSPX.excO C h1.objs.size)).get? (h1.objs.size + 1) = some (PySem.HandSPX.excO C h1.objs.size) := by heap_get
  have J2 : Inv X pins σ0 (upd G (h1.objs.size + 1) (exo (h1.objs.size + 1) C none)) ⟨(h1.push (PySem.W.kdv_tup [])).push (PySem.HandSPX.excO C h1.objs.size), gn, dw, tok, sys⟩ :=
    J1.laid (o := exo (h1.objs.size + 1) C none) (a := h1.objs.size + 1) (t' := tok) (h' := (h1.push (PySem.W.kdv_tup [])).push (PySem.HandSPX.excO C h1.objs.size)) keep1 le1 (exo_ok made)
  have r1 : Vals [V.ref (h1.objs.size + 1)] [Value.ref (h1.objs.size + 1)] := .cons rfl .nil
  have rel2 := hb.rel r1 rel
  have e2 : vals.length = ks.length := rel.length.symm.trans hlen
  refine wpAny_call (PySem.OGK.call_ownK G0 hY (J1.kIn _ _ look) (PySem.W.looks_findIn J1.kIn hi) (fun self => PySem.W.bind_fn J1.kIn self ht)
    (codeAny_mono (Fn.run _ X.stack _ _ ⟨[Value.ref (h1.objs.size + 1)], ks.zip vals⟩ (g [Value.ref (h1.objs.size + 1)] vals) _ _ (fun _ _ _ => False) (room.make C [] (ks.zip vals)) (J2.env0.make C [] (ks.zip vals)) (hb.to _ [Value.ref (h1.objs.size + 1)] vals J2.kIn rfl e2) rel2 want1) fun r t3 got => ?_))
  match r, got with
  | .error er, got => exact pass pins σ0 _ _ er t3 J2 got
  | .ok (.ret u), got =>
    obtain ⟨v, H', I3, rv, ev, q3⟩ := J2.after got
    subst ev
    exact ⟨rv, ⟨V.ref (h1.objs.size + 1), H', I3, rfl, q3⟩⟩
theorem pe_mk0 {x : Str} {C : Addr} (M : Exc0 X.K X.mg x C) (hg : Gl X x) (hdb : (x == ("__debug__" : Str)) = false := by decide) : PE X (.Call (.Name x p) [] [] pos) (fun _ H Q => ∀ a, H a = none → Q (.ref a) (upd H a (exo a C none))) := by
  refine ⟨fun pins s σ H Q I h => ?_⟩
  refine wpAny_Call_Name_kw (ld_glob I hg M.at_ (PySem.W.callWith_K0 I.kIn M.kC ?_) hdb)
  show wpAny _ _ (call (.ref C) []) _ _ _
  obtain ⟨bm, N, nm, qn, bs, hdct, sn, sub, ab, col, dd, k0, k1, k2, k3, k5, mN, hC, hN, hni, T⟩ := exc_obj I.kIn M.ok
  obtain ⟨h0, g0, d0, t0, o0⟩ := s
  refine wpAny_call_exc_subT F.excBase_ArithmeticError T hC hN hni (fun h' e hm => ?_) (by show 0 ≤ sizeLine; omega)
  obtain ⟨t, he, _, _⟩ := hm.there
  have J2 : Inv X pins σ (upd H e (exo e C none)) ⟨h', g0, d0, t0, o0⟩ := I.laidN (o := exo e C none) (a := e) (t' := t0) (h' := h') hm.keeps hm.new (I.hok.gone hm.new) (exo_ok he)
  exact ⟨V.ref e, _, J2, rfl, h e (I.hok.gone hm.new)⟩
end
end J
/-! J95: errors as data, in expressions. -/
namespace J
open PySem PySem.Spec
open PyProof.Rows L2
/-- an error of the class at D -/
def ErD (D : Addr) (d : PyData) : Prop := (∃ fs, d = exD D fs) ∨ d = ex0D D
theorem ErD.at_ {D : Addr} {d : PyData} {H : Hp} {v : V} (e : ErD D d) (h : Dq H v d) : ∃ (a : Addr) (od : Option Addr), v = .ref a ∧ H a = some (exo a D od) ∧ ∀ x, od = some x → ∃ ws, H x = some (exd x ws) := by
  rcases e with ⟨fs, rfl⟩ | rfl
  · obtain ⟨a, x, ws, rfl, ha, hx, _, _⟩ := dq_exD h
    exact ⟨a, some x, rfl, ha, fun y hy => by cases hy; exact ⟨ws, hx⟩⟩
  · obtain ⟨a, rfl, ha⟩ := dq_ex0D h
    exact ⟨a, none, rfl, ha, fun y hy => by cases hy⟩
section
variable {K : PySem.W.Frag} {H H' : Hp} {w : Wd} {μ : Sto} {a dx C : Addr} {ws : List (Str × V)} {fs : List (Str × PyData)}
theorem mkV_end (m : Mem K H w μ) (hS : Same H H') (ha : H a = none) (hd : H dx = none) (ea : H' a = some (exo a C (some dx))) (ed : H' dx = some (exd dx ws)) (hn : ws.map (·.1) = fs.map (·.1)) (hq : DqAll (dl H w.all) (ws.map (·.2)) (fs.map (·.2))) :
    Mem K H' w μ ∧ Fr w.α H H' ∧ Val K H' w (.ref a) (.dat (exD C fs)) := by
  have f : Fr w.α H H' := Fr.of_same hS
  exact ⟨m.same hS, f, Dq.exn (dl_of (m.freshA ha) ea exo_nt) (dl_of (m.freshA hd) ed exd_nt) hn (dqAll_mono f.all _ _ hq)⟩
end
def spXB (C : Addr) : Sp := fun vs H Q _ => ∃ a v u, vs = [.ref a, v, u] ∧ H a = some (exo a C none) ∧ ∀ dx, H dx = none → dx ≠ a → Q .non (upd (upd (upd H dx (exd dx [(Str.ofString "index", v)])) a (exo a C (some dx))) dx (exd dx [(Str.ofString "shown", u), (Str.ofString "index", v)]))
/-- an own class whose __init__ keeps one value, called by position or by name -/
structure ExcV (P : Program) (w : World) (K : PySem.W.Frag) (mg : Str → Option Value) (base : Heap) (n : Str) (C : Addr) (f : Str) : Prop where
  g : ExcG P w K mg base n C f
  kw : ∃ fI fd, PySem.W.findIn K (.ref C) "__init__" = some (some (.ref fI)) ∧ PySem.W.typeIn K (.ref fI) = some (.type "function") ∧ FnOk P w K mg base CX0 1 fI fd ["self", f] (spXI C f) ∧ KBn K fd ["self", f] 1 [f] (fun us ws => us ++ ws) (fun vs zs => vs ++ zs)
def rv2 {α : Type} (us : List α) : List α → List α
  | [x, y] => us ++ [y, x]
  | ws => us ++ ws
structure ExcB (P : Program) (w : World) (K : PySem.W.Frag) (mg : Str → Option Value) (base : Heap) (n : Str) (C : Addr) : Prop where
  oex : OexG K C
  at_ : mg n = some (.ref C)
  kw : ∃ fI fd, PySem.W.findIn K (.ref C) "__init__" = some (some (.ref fI)) ∧ PySem.W.typeIn K (.ref fI) = some (.type "function") ∧ FnOk P w K mg base CX0 1 fI fd ["self", "index", "shown"] (spXB C) ∧ Binds K fd ["self", "index", "shown"] [] ∧
    KBn K fd ["self", "index", "shown"] 1 ["shown", "index"] rv2 rv2
section
variable {X : Cx} {ρ : REnv} {μ μ1 μ2 : Sto} {e e2 o : Expr} {pos p p2 kp kp2 : Pos} {d d2 dt : PyData} {n f : Str} {C D : Addr} {k : Nat} {fs : List (Str × PyData)} {cv : Value} {b : Bool}
/-- X(e) -/
theorem EV.mkE (M : ExcV X.prog X.w X.K X.mg X.base n C f) (hr : Room k X.A) (ha : EV X e ρ μ (.dat d) μ1) (hk : 2 ≤ k := by decide) (hg : Gl X n := by rfl)
    (hdb : (n == ("__debug__" : Str)) = false := by decide) (he : starEach [e] X.env = (false, eval e X.env) :: starEach [] X.env := by rfl) (hpl : (backTo pos (starEach [] X.env)).any (·.1) = false := by rfl) : EV X (.Call (.Name n p) [e] [] pos) ρ μ (.dat (exD C [(f, d)])) μ1 := by
  intro w σ H m s Q q
  obtain ⟨fI, fd, iC, tI, F, bi⟩ := M.g.ini
  refine ⟨_, pe_mkV (Y := CX0) M.g.oex iC tI F (hr.mono hk) bi pass0 hg M.g.at_ (pa_cons (p_ex (e := e)) pa_nil he) hdb he hpl, ?_⟩
  refine ha w σ H m s _ fun v H1 m1 f1 hv => ?_
  refine ⟨by simp, fun a na => ⟨a, v, rfl, upd_same, fun dx hd hne => ⟨rfl, ?_⟩⟩⟩
  have hd' : H1 dx = none := by rwa [upd_ne hne] at hd
  obtain ⟨m2, f2, x2⟩ := mkV_end (H' := upd (upd (upd H1 a (exo a C none)) dx (exd dx [(f, v)])) a (exo a C (some dx))) (ws := [(f, v)]) (fs := [(f, d)]) (C := C) m1 (fun b u eb => by
    have n1 : b ≠ a := ne_of_none eb na
    have n2 : b ≠ dx := ne_of_none eb hd'
    rw [upd_ne n1, upd_ne n2, upd_ne n1]
    exact eb) na hd' upd_same (by rw [upd_ne hne, upd_same]) rfl (.cons hv .nil)
  exact q _ _ m2 (f1.trans f2) x2
/-- X(f = e) -/
theorem EV.mkEK (M : ExcV X.prog X.w X.K X.mg X.base n C f) (hr : Room k X.A) (ha : EV X e ρ μ (.dat d) μ1) (hk : 2 ≤ k := by decide) (hg : Gl X n := by rfl)
    (hall : (backToKw pos (keywordEach [⟨some f, e, kp⟩] X.env)).all (·.1.isSome) = true := by rfl) (hks : (backToKw pos (keywordEach [⟨some f, e, kp⟩] X.env)).filterMap (·.1) = [f] := by rfl) (hdb : (n == ("__debug__" : Str)) = false := by decide)
    (hpl : ((backTo pos (starEach [] X.env)).any (·.1) || (backToKw pos (keywordEach [⟨some f, e, kp⟩] X.env)).any (·.1.isNone)) = false := by rfl) : EV X (.Call (.Name n p) [] [⟨some f, e, kp⟩] pos) ρ μ (.dat (exD C [(f, d)])) μ1 := by
  intro w σ H m s Q q
  obtain ⟨fI, fd, iC, tI, F, bi⟩ := M.kw
  refine ⟨_, pe_mkW (Y := CX0) M.g.oex iC tI F (hr.mono hk) bi pass0 hg M.g.at_ (pk_cons (p_ex (e := e)) pk_nil) hall hks hdb hpl, ?_⟩
  refine ha w σ H m s _ fun v H1 m1 f1 hv => ?_
  refine ⟨rfl, fun a na => ⟨a, v, rfl, upd_same, fun dx hd hne => ⟨rfl, ?_⟩⟩⟩
  have hd' : H1 dx = none := by rwa [upd_ne hne] at hd
  obtain ⟨m2, f2, x2⟩ := mkV_end (H' := upd (upd (upd H1 a (exo a C none)) dx (exd dx [(f, v)])) a (exo a C (some dx))) (ws := [(f, v)]) (fs := [(f, d)]) (C := C) m1 (fun b u eb => by
    have n1 : b ≠ a := ne_of_none eb na
    have n2 : b ≠ dx := ne_of_none eb hd'
    rw [upd_ne n1, upd_ne n2, upd_ne n1]
    exact eb) na hd' upd_same (by rw [upd_ne hne, upd_same]) rfl (.cons hv .nil)
  exact q _ _ m2 (f1.trans f2) x2
theorem mkB_end {K : PySem.W.Frag} {H1 : Hp} {w : Wd} {μ : Sto} {a dx : Addr} {v u : V} (m1 : Mem K H1 w μ) (na : H1 a = none) (hd' : H1 dx = none) (hne : dx ≠ a) (hv : Val K H1 w v (.dat d)) (hu : Val K H1 w u (.dat d2)) :
    let H' := upd (upd (upd (upd H1 a (exo a C none)) dx (exd dx [(Str.ofString "index", v)])) a (exo a C (some dx))) dx (exd dx [(Str.ofString "shown", u), (Str.ofString "index", v)])
    Mem K H' w μ ∧ Fr w.α H1 H' ∧ Val K H' w (.ref a) (.dat (exD C [(Str.ofString "shown", d2), (Str.ofString "index", d)])) :=
  mkV_end m1 (fun b u eb => by
    have n1 : b ≠ a := ne_of_none eb na
    have n2 : b ≠ dx := ne_of_none eb hd'
    rw [upd_ne n2, upd_ne n1, upd_ne n2, upd_ne n1]
    exact eb) na hd' (by rw [upd_ne (Ne.symm hne), upd_same]) upd_same rfl (.cons hu (.cons hv .nil))
/-- Broken(e, e2) -/
theorem EV.mkB (M : ExcB X.prog X.w X.K X.mg X.base n C) (hr : Room k X.A) (ha : EV X e ρ μ (.dat d) μ1) (hb : EV X e2 ρ μ1 (.dat d2) μ2) (hk : 2 ≤ k := by decide) (hg : Gl X n := by rfl)
    (hdb : (n == ("__debug__" : Str)) = false := by decide) (he : starEach [e, e2] X.env = (false, eval e X.env) :: starEach [e2] X.env := by rfl) (he2 : starEach [e2] X.env = (false, eval e2 X.env) :: starEach [] X.env := by rfl) (hpl : (backTo pos (starEach [e2] X.env)).any (·.1) = false := by rfl) :
    EV X (.Call (.Name n p) [e, e2] [] pos) ρ μ (.dat (exD C [(Str.ofString "shown", d2), (Str.ofString "index", d)])) μ2 := by
  intro w σ H m s Q q
  obtain ⟨fI, fd, iC, tI, F, bi, _⟩ := M.kw
  refine ⟨_, pe_mkV (Y := CX0) M.oex iC tI F (hr.mono hk) bi pass0 hg M.at_ (pa_cons (p_ex (e := e)) (pa_cons (p_ex (e := e2)) pa_nil he2) he) hdb he hpl, ?_⟩
  refine ha w σ H m s _ fun v H1 m1 f1 hv => ?_
  refine hb w σ H1 m1 (s.fr f1) _ fun u H2 m2 f2 hu => ?_
  refine ⟨by simp, fun a na => ⟨a, v, u, rfl, upd_same, fun dx hd hne => ⟨rfl, ?_⟩⟩⟩
  have hd' : H2 dx = none := by rwa [upd_ne hne] at hd
  obtain ⟨m3, f3, x3⟩ := mkB_end (C := C) m2 na hd' hne (hv.fr f2) hu
  exact q _ _ m3 ((f1.trans f2).trans f3) x3
/-- Broken(shown = e2, index = e) -/
theorem EV.mkBK (M : ExcB X.prog X.w X.K X.mg X.base n C) (hr : Room k X.A) (hb : EV X e2 ρ μ (.dat d2) μ1) (ha : EV X e ρ μ1 (.dat d) μ2) (hk : 2 ≤ k := by decide) (hg : Gl X n := by rfl)
    (hall : (backToKw pos (keywordEach [⟨some "shown", e2, kp2⟩, ⟨some "index", e, kp⟩] X.env)).all (·.1.isSome) = true := by rfl) (hks : (backToKw pos (keywordEach [⟨some "shown", e2, kp2⟩, ⟨some "index", e, kp⟩] X.env)).filterMap (·.1) = [Str.ofString "shown", Str.ofString "index"] := by rfl) (hdb : (n == ("__debug__" : Str)) = false := by decide)
    (hpl : ((backTo pos (starEach [] X.env)).any (·.1) || (backToKw pos (keywordEach [⟨some "shown", e2, kp2⟩, ⟨some "index", e, kp⟩] X.env)).any (·.1.isNone)) = false := by rfl) :
    EV X (.Call (.Name n p) [] [⟨some "shown", e2, kp2⟩, ⟨some "index", e, kp⟩] pos) ρ μ (.dat (exD C [(Str.ofString "shown", d2), (Str.ofString "index", d)])) μ2 := by
  intro w σ H m s Q q
  obtain ⟨fI, fd, iC, tI, F, _, bi⟩ := M.kw
  refine ⟨_, pe_mkW (Y := CX0) M.oex iC tI F (hr.mono hk) bi pass0 hg M.at_ (pk_cons (p_ex (e := e2)) (pk_cons (p_ex (e := e)) pk_nil)) hall hks hdb hpl, ?_⟩
  refine hb w σ H m s _ fun u H1 m1 f1 hu => ?_
  refine ha w σ H1 m1 (s.fr f1) _ fun v H2 m2 f2 hv => ?_
  refine ⟨rfl, fun a na => ⟨a, v, u, rfl, upd_same, fun dx hd hne => ⟨rfl, ?_⟩⟩⟩
  have hd' : H2 dx = none := by rwa [upd_ne hne] at hd
  obtain ⟨m3, f3, x3⟩ := mkB_end (C := C) m2 na hd' hne hv (hu.fr f2)
  exact q _ _ m3 ((f1.trans f2).trans f3) x3
/-- X() -/
theorem EV.mkE0 (M : Exc0 X.K X.mg n C) (hg : Gl X n := by rfl) (hdb : (n == ("__debug__" : Str)) = false := by decide) : EV X (.Call (.Name n p) [] [] pos) ρ μ (.dat (ex0D C)) μ := by
  intro w σ H m s Q q
  refine ⟨_, pe_mk0 M hg hdb, fun a na => ?_⟩
  have hS : Same H (upd H a (exo a C none)) := fun b u eb => by
    rw [upd_ne (ne_of_none eb na)]
    exact eb
  exact q _ _ (m.same hS) (Fr.of_same hS) (Dq.ex0 (dl_of (m.freshA na) upd_same exo_nt))
theorem call_isX (M : ExcC X.K D) : CallR X (.builtin "isinstance") (fun xs H Q => ∃ (a : Addr) (od : Option Addr) (c : V) (cv : Value) (b : Bool), H a = some (exo a D od) ∧ (∀ x, od = some x → ∃ ws, H x = some (exd x ws)) ∧ xs = [.ref a, c] ∧ (∀ u, RelV c u → u = cv) ∧ PySem.W.kitOne X.K (.ref D) cv = some b ∧ Q (.bl b) H) := by
  intro pins s0 σ H xs us Q I r hh
  obtain ⟨a, od, c, cv, b, ha, hx, rfl, hcv, hk, hq⟩ := hh
  obtain ⟨u1, u2, rfl, r1, r2⟩ := vals2 r
  obtain rfl : u1 = Value.ref a := r1
  obtain rfl := hcv _ r2
  obtain ⟨t1, hget⟩ := exo_at I.hok ha
  have hcl : (PySem.W.clsIn X.K D).isSome = true := by
    obtain ⟨cd, hc, _⟩ := PySem.W.any_some M.hd
    rw [hc]
    rfl
  cases od with
  | none =>
    have J0 : PySem.W.InstAt s0.heap a _ D none := ⟨hget, rfl, rfl, trivial⟩
    exact PySem.W.kia_one (PySem.W.kitx_exc hcl M.hg M.hk M.hs M.ha M.hn M.ht M.hm) I.kIn J0 hk (fun z => nomatch z) fun tk => ⟨.bl b, H, I.kept (t' := tk) fun _ _ z => z, rfl, hq⟩
  | some x =>
    obtain ⟨ws, hx⟩ := hx x rfl
    obtain ⟨mA, hns, hr⟩ := exd_at I.hok hx
    obtain ⟨od, ho, _⟩ := lookIn_ns hns
    have J0 : PySem.W.InstAt s0.heap a _ D (some od) := ⟨hget, rfl, rfl, ho⟩
    exact PySem.W.kia_one (PySem.W.kitx_exc hcl M.hg M.hk M.hs M.ha M.hn M.ht M.hm) I.kIn J0 hk (fun z => nomatch z) fun tk => ⟨.bl b, H, I.kept (t' := tk) fun _ _ z => z, rfl, hq⟩
/-- isinstance(x, T), x an error -/
theorem EV.isX (M : ExcC X.K D) (hd : ErD D dt) (T : X.mg "isinstance" = none) (N : ClsAt X.mg n cv) (hk : PySem.W.kitOne X.K (.ref D) cv = some b) (ho : EV X o ρ μ (.dat dt) μ1) (hg : Gl X "isinstance" := by rfl) (hgT : Gl X n := by rfl)
    (he : starEach [o, .Name n p2] X.env = (false, eval o X.env) :: starEach [.Name n p2] X.env := by rfl) (he2 : starEach [.Name n p2] X.env = (false, eval (.Name n p2) X.env) :: starEach [] X.env := by rfl) (hpl : (backTo pos (starEach [.Name n p2] X.env)).any (·.1) = false := by rfl) : EV X (.Call (.Name "isinstance" p) [o, .Name n p2] [] pos) ρ μ (Bb b) μ1 := by
  intro w σ H m s Q q
  obtain ⟨hdb, ⟨c, rfl, hm⟩ | ⟨c, rfl, hm, hv, hn⟩⟩ := N
  · refine ⟨_, pe_callB (call_isX M) hg T (by decide +kernel) (pa_cons (p_ex (e := o)) (pa_cons (pe_glob (v := .ref c) hgT hm rfl hdb) pa_nil he2) he) (by decide) (by decide) he hpl, ?_⟩
    refine ho w σ H m s _ fun v H1 m1 f1 h1 => ?_
    obtain ⟨a, od, rfl, ha, hx⟩ := hd.at_ h1
    exact ⟨a, od, .ref c, .ref c, b, (dl_some ha).2, fun x e => (hx x e).elim fun ws z => ⟨ws, (dl_some z).2⟩, rfl, fun u hu => hu, hk, q _ H1 m1 f1 (Dq.bl b)⟩
  · refine ⟨_, pe_callB (call_isX M) hg T (by decide +kernel) (pa_cons (p_ex (e := o)) (pa_cons (pe_bltn (v := .ty c) hgT hm hv rfl hn hdb) pa_nil he2) he) (by decide) (by decide) he hpl, ?_⟩
    refine ho w σ H m s _ fun v H1 m1 f1 h1 => ?_
    obtain ⟨a, od, rfl, ha, hx⟩ := hd.at_ h1
    exact ⟨a, od, .ty c, .type c, b, (dl_some ha).2, fun x e => (hx x e).elim fun ws z => ⟨ws, (dl_some z).2⟩, rfl, fun u hu => hu, hk, q _ H1 m1 f1 (Dq.bl b)⟩
theorem pe_xv {te : TE} (T : XfC X.K D) (hno : PySem.W.findIn X.K (.ref D) f = some none) (he : PE X o te) (hb : attributeBase o f X.env (eval o X.env) = eval o X.env := by rfl) :
    PE X (.Attribute o f pos) (fun σ H Q => te σ H fun x H1 => ∃ (a d : Addr) (ws : List (Str × V)) (v : V), x = .ref a ∧ H1 a = some (exo a D (some d)) ∧ H1 d = some (exd d ws) ∧ ws.lookup f = some v ∧ Q v H1) := by
  refine ⟨fun pins s0 σ H Q I hh => ?_⟩
  refine attr_of hb (thn (he.run pins s0 σ H _ I hh) fun u s1 hy => ?_)
  obtain ⟨x, H1, I1, rx, a, d, ws, v, ex, ea, ed, lk, hq⟩ := hy
  subst ex
  obtain rfl : u = Value.ref a := rx
  obtain ⟨t1, ha⟩ := exo_at I1.hok ea
  obtain ⟨mA, hns, hr⟩ := exd_at I1.hok ed
  obtain ⟨od, ho, hl⟩ := lookIn_ns hns
  obtain ⟨u, hu, ru⟩ := RelO.some_of (v := v) (o := mA f) (by rw [← lk]; exact hr f)
  have J0 : PySem.W.InstAt s1.heap a _ D (some od) := ⟨ha, rfl, rfl, ho⟩
  exact HandSPX.exc_get I1.kIn J0 T.ga T.gg T.exC (PySem.W.findObj_own T.hdC hno rfl (by rw [hl, hu])) (handed_of ru) ⟨v, H1, I1.tok _, ru, hq⟩
/-- x.f, x an error -/
theorem EV.fldX (T : XfC X.K D) (hno : PySem.W.findIn X.K (.ref D) f = some none) (ho : EV X o ρ μ (.dat (exD D fs)) μ1) (hl : fs.lookup f = some dt) (hb : attributeBase o f X.env (eval o X.env) = eval o X.env := by rfl) : EV X (.Attribute o f pos) ρ μ (.dat dt) μ1 := by
  intro w σ H m s Q q
  refine ⟨_, pe_xv T hno (p_ex (e := o)) hb, ?_⟩
  refine ho w σ H m s _ fun v H1 m1 f1 h1 => ?_
  obtain ⟨a, d, ws, rfl, ha, hx, hn, hd⟩ := dq_exD h1
  obtain ⟨u, hu, hq⟩ := lk_dq hn hd hl
  exact ⟨a, d, ws, u, rfl, (dl_some ha).2, (dl_some hx).2, hu, q u H1 m1 f1 hq⟩
end
end J
/-! J96: try: body except B as y: suite; raise Broken(e, e2). -/
namespace J
open PySem PySem.Spec
open PyProof.Rows L2
theorem xd_cons {H : Hp} {w : Wd} {od : Option Addr} {p : Str × PyData} {fs : List (Str × PyData)} (h : Xd H w od (p :: fs)) : ∃ d, od = some d ∧ ∃ ws : List (Str × V), dl H w.all d = some (.xd ws) ∧ ws.map (·.1) = (p :: fs).map (·.1) ∧ DqAll (dl H w.all) (ws.map (·.2)) ((p :: fs).map (·.2)) := by
  cases od with
  | none => cases h
  | some d =>
    obtain ⟨ws, e, nd, hn, hd⟩ := h
    exact ⟨d, rfl, ws, dl_of nd e, hn, hd⟩
section
variable {X : Cx} {W : WX} {ρ : REnv} {μ μ1 μ2 : Sto} {e e2 : Expr} {pos p pos' np : Pos} {d d2 : PyData} {n x y : Str} {C B : Addr} {nn k i : Nat} {P Pb : Out → Prop} {body suite rest : List Stmt} {b0 : Stmt}
/-- raise Broken(e, e2) -/
theorem ST.raiseB (M : ExcB X.prog X.w X.K X.mg X.base n C) (tk : L2N.Takes X W) (hr : Room k X.A) (ha : EV X e ρ μ (.dat d) μ1) (hb : EV X e2 ρ μ1 (.dat d2) μ2) (hP : P (.rse ρ μ2 C [(Str.ofString "shown", d2), (Str.ofString "index", d)])) (hk : 2 ≤ k := by decide) (hc : X.calm = true := by rfl) (hg : Gl X n := by rfl)
    (hdb : (n == ("__debug__" : Str)) = false := by decide) (he : starEach [e, e2] X.env = (false, eval e X.env) :: starEach [e2] X.env := by rfl) (he2 : starEach [e2] X.env = (false, eval e2 X.env) :: starEach [] X.env := by rfl) (hpl : (backTo pos (starEach [e2] X.env)).any (·.1) = false := by rfl) : ST X W nn (.Raise (some (.Call (.Name n p) [e, e2] [] pos)) none pos' :: rest) ρ μ P := by
  intro w σ H D hn m s q
  obtain ⟨fI, fd, iC, tI, F, bi, _⟩ := M.kw
  refine ⟨_, pss_cons (L2N.ps_raise hc tk (pmk_oexG (Y := CX0) M.oex iC tI F (hr.mono hk) bi pass0 hg M.at_ (pa_cons (p_ex (e := e)) (pa_cons (p_ex (e := e2)) pa_nil he2) he) hdb he hpl)) pss_never, ?_⟩
  refine ha w σ H m s _ fun v H1 m1 f1 hv => ?_
  refine hb w σ H1 m1 (s.fr f1) _ fun u H2 m2 f2 hu => ?_
  refine ⟨by simp, fun a na => ⟨a, v, u, rfl, upd_same, fun dx hd hne => ⟨rfl, dx, [(Str.ofString "shown", u), (Str.ofString "index", v)], ?_, upd_same, ?_, ?_⟩⟩⟩
  · rw [upd_ne (Ne.symm hne), upd_same]
  · rwa [upd_ne hne] at hd
  · have hd' : H2 dx = none := by rwa [upd_ne hne] at hd
    let G : Hp := upd (L2.del (upd (upd (upd (upd H2 a (exo a C none)) dx (exd dx [(Str.ofString "index", v)])) a (exo a C (some dx))) dx (exd dx [(Str.ofString "shown", u), (Str.ofString "index", v)])) a) dx (.xd [(Str.ofString "shown", u), (Str.ofString "index", v)])
    have hS : Same H2 G := fun b o eb => by
      have n1 : b ≠ a := ne_of_none eb na
      have n2 : b ≠ dx := ne_of_none eb hd'
      show upd (L2.del (upd (upd (upd (upd H2 a (exo a C none)) dx (exd dx [(Str.ofString "index", v)])) a (exo a C (some dx))) dx (exd dx [(Str.ofString "shown", u), (Str.ofString "index", v)])) a) dx (.xd [(Str.ofString "shown", u), (Str.ofString "index", v)]) b = some o
      rw [upd_ne n2, L2.del_ne n1, upd_ne n2, upd_ne n1, upd_ne n2, upd_ne n1]
      exact eb
    have f3 : Fr w.α H2 G := Fr.of_same hS
    have x2 : Xd G w (some dx) [(Str.ofString "shown", d2), (Str.ofString "index", d)] := ⟨[(Str.ofString "shown", u), (Str.ofString "index", v)], upd_same, m2.freshA hd', rfl, .cons (dq_mono f3.all _ _ hu) (.cons (dq_mono f3.all _ _ (hv.fr f2)) .nil)⟩
    exact Fin.rse0 (q _ hP) (m2.same hS) (((s.fr f1).fr f2).fr f3) ((f1.trans f2).trans f3) x2
theorem Sl.unset {K : PySem.W.Frag} {H : Hp} {w : Wd} {σ : L2.St} {ρ : REnv} (s : Sl K H w σ ρ) (i : Nat) : Sl K H w (σ.set i none) (ρ.set i none) := by
  refine ⟨by simp [s.len], fun j r e => ?_⟩
  by_cases hj : i = j
  · subst hj
    rw [List.getElem?_set] at e
    by_cases hi : i < ρ.length
    · simp [hi] at e
    · simp [hi] at e
  · rw [List.getElem?_set_ne hj] at e
    rw [List.getElem?_set_ne hj]
    exact s.at_ j r e
/-- what comes of the body is caught, the suite goes on -/
theorem ST.tryAs (hst : X.stack = X.env :: X.outer) (hfr : X.env.frame = some X.env.locals) (hN : X.N.Nodup) (hi : X.N[i]? = some y) (hln : X.env.kindOf y = some .local) (hx : Names X x (.ref B))
    (hb : ∀ (W' : WX) (pn : List (Addr × Obj)) (xe : Value → Shared → Prop), L2N.Takes (X.tr pn xe) W' → ST (X.tr pn xe) W' nn body ρ μ Pb)
    (ho : ∀ o, Pb o → ∃ ρ' ν pf fs, o = .rse ρ' ν C (pf :: fs) ∧ PySem.W.exmOne X.K (.ref C) (.ref B) = some true ∧
      ∀ (a dx : Addr) (oe : Obj) (pn : List (Addr × Obj)), Zc (.ref C) (some dx) oe → (∃ vs, oe.data = .fields vs) → ∃ Ps : Out → Prop,
        ST (X.suite a ((a, oe) :: pn)) W0 nn (b0 :: suite) (ρ'.set i (some (.exc a dx (pf :: fs)))) ν Ps ∧ ∀ o, Ps o → ∃ ρ2 ν2, o = .nx ρ2 ν2 ∧ ST X W nn rest (ρ2.set i none) ν2 P) :
    ST X W nn (.Try body [.ExceptHandler (some (.Name x np)) (some y) (b0 :: suite) pos'] [] [] pos :: rest) ρ μ P := by
  intro w σ H D hn m s q
  refine ⟨_, pss_cons (L2N.ps_try_as (Wout := fun _ _ _ _ => False) (tb := fun W' D σ H => ∀ (pn : List (Addr × Obj)) (xe : Value → Shared → Prop), L2N.Takes (X.tr pn xe) W' → SX (X.tr pn xe) body D σ H)
    (ts := fun a cls d0 D σ H => ∀ (oe : Obj) (pn : List (Addr × Obj)), Zc cls d0 oe → (∃ vs, oe.data = .fields vs) → SX (X.suite a ((a, oe) :: pn)) (b0 :: suite) D σ H) hst hfr hN hi hln hx (fun u s' z => ?_) (fun W' pn xe t1 t2 => ⟨fun pins s0 σ0 H0 D0 I h => (h pn xe t1).elim fun t z => z.1.run pins s0 σ0 H0 D0 I z.2⟩) (fun a oe cls d0 pn hz hf => ⟨fun pins s0 σ0 H0 D0 I h => (h oe pn hz.zc hf).elim fun t z => z.1.run pins s0 σ0 H0 D0 I z.2⟩)) p_sx, ?_⟩
  · obtain ⟨_, _, _, _, _, _, _, _, _, _, _, _, _, _, _, _, z⟩ := z
    exact z.elim
  · intro pn xe t1
    refine hb _ pn xe t1 w σ H _ hn m s fun o hPb => ?_
    obtain ⟨ρ', ν, pf, fs, rfl, hm, hsu⟩ := ho o hPb
    intro od β σ' H' m' s' f' hb' hx'
    refine ⟨true, hm, fun _ a na => ?_, fun z => by cases z⟩
    intro oe pn2 hz hf
    obtain ⟨dx, rfl, ws, e, hnm, hd⟩ := xd_cons hx'
    obtain ⟨Ps, hs, hps⟩ := hsu a dx oe pn2 hz hf
    refine hs (w.add β) _ H' _ (by simp; omega) m' (s'.set (r := .exc a dx (pf :: fs)) ⟨rfl, ws, e, hnm, hd⟩) fun o2 hP2 => ?_
    obtain ⟨ρ2, ν2, rfl, hrest⟩ := hps o2 hP2
    intro β2 σ2 H2 m2 s2 f2 hb2
    have g1 : ∀ o, P o → Fin X W nn (w.add β) H' D o := fun o hPo => Fin.grow (β := β) (q o hPo) hn f' hb'
    refine hrest ((w.add β).add β2) _ H2 D (by simp; omega) m2 (s2.unset i) fun o3 hP3 => ?_
    exact Fin.grow (β := β2) (g1 o3 hP3) (by simp; omega) f2 hb2
end
end J
/-! J56: comprehensions with a test. -/
namespace J
open PySem PySem.Spec
open PyProof.Rows L2
/-- what is walked, by a test, and changed -/
theorem LCV.filtMap {X : Cx} {ρ : REnv} {μ μ1 : Sto} {tg iter elt c : Expr} {scope : Scope} {own : List (Str × Nat)} {α : Type} {bs : List α} (h g : α → PyData) (t : α → Bool) (hi : IV X tg iter ρ μ (bs.map h) μ1)
    (hs : ∀ b ∈ bs, ∃ ρ', (∀ s H C cl fp, GV (blkX X scope s H C cl fp) tg (h b) (wipeE ρ (own.map (·.2))) ρ' (own.map (·.2))) ∧ (∀ s H C cl fp, TV (blkX X scope s H C cl fp) c ρ' μ1 (t b) μ1) ∧ (∀ s H C cl fp, EV (blkX X scope s H C cl fp) elt ρ' μ1 (.dat (g b)) μ1))
    (hl : bs.length ≤ 100000) : LCV X elt tg iter [c] scope own ρ μ ((bs.filter t).map g) μ1 := by
  refine LCV.mk hi (fun i acc ν => acc = ((bs.take i).filter t).map g ∧ ν = μ1) ⟨by simp, rfl⟩ (fun i d acc ν e hI => ?_) (fun acc ν hI => ?_) (by simpa using hl)
  · obtain ⟨rfl, rfl⟩ := hI
    rw [List.getElem?_map] at e
    cases q : bs[i]? with
    | none => rw [q] at e; cases e
    | some b =>
      rw [q] at e
      cases e
      obtain ⟨ρ', h1, h2, h3⟩ := hs b (List.mem_iff_getElem?.mpr ⟨i, q⟩)
      refine ⟨ρ', h1, t b, _, .inr ⟨c, rfl, h2⟩, ?_⟩
      have et : ((bs.take (i + 1)).filter t).map g = ((bs.take i).filter t).map g ++ (if t b = true then [g b] else []) := by
        rw [List.take_succ, q, List.filter_append, Option.toList_some, List.filter_cons, List.filter_nil, List.map_append]
        cases t b <;> rfl
      cases ht : t b with
      | true =>
        rw [ht, if_pos rfl] at et
        exact iteT ⟨g b, _, h3, et.symm, rfl⟩
      | false =>
        rw [ht, if_neg (by decide), List.append_nil] at et
        exact iteF ⟨et.symm, rfl⟩
  · rw [List.length_map, List.take_length] at hI
    exact hI
end J
/-! J30: try: .. except (A, B, C) as e: ..; one of them is what comes. -/
namespace J
open PySem PySem.Spec
open PyProof.Rows L2
theorem flies_on {B g g' : Heap} {fr : List Env} {x : Addr} {Z : Obj → Prop} (f : HandSPX.FlyingZ B fr x Z g) (k : ∀ b o, g.get? b = some o → g'.get? b = some o) : HandSPX.FlyingZ B fr x Z g' := by
  obtain ⟨p1, p2, p3, oe, vs, T, oT, ts, q1, q2, q3, q4, q5, q6, q7, q8, q9⟩ := f
  exact ⟨fun b o e => k b o (p1 b o e), p2, p3.of_keeps (fun b o e _ => ⟨o, k b o e, rfl⟩), oe, vs, T, oT, ts, k _ _ q1, q2, q3, q4, q5, q6, k _ _ q7, q8, q9⟩
/-- what the clause wishes of an exception of the body; slot i is the name's -/
def wAs3 (K : PySem.W.Frag) (cs : List Value) (i : Nat) (ts : Addr → Value → Option Addr → TS) (D : Ends) : WX := fun cls d σ H => PySem.W.exmAny K cls cs = some true ∧ ∀ a, H a = none →
  ts a cls d { nx := fun σ' H' => D.nx (σ'.set i none) H', rt := D.rt, bk := fun σ' H' => D.bk (σ'.set i none) H', ct := fun σ' H' => D.ct (σ'.set i none) H' } (σ.set i (some (.ref a))) H
section
variable {X : Cx} {n x1 x2 x3 : Str} {c1 c2 c3 : Addr} {i : Nat} {body suite : List Stmt} {b₀ : Stmt} {p1 p2 p3 tp pos pos' : Pos} {tk : Nat} {tb : WX → TS} {ts : Addr → Value → Option Addr → TS}
theorem ps_try3 (hst : X.stack = X.env :: X.outer) (hfr : X.env.frame = some X.env.locals) (nd : X.N.Nodup) (hi : X.N[i]? = some n) (hloc : X.env.kindOf n = some .local)
    (hg1 : Gl X x1) (m1 : X.mg x1 = some (.ref c1)) (d1 : (x1 == ("__debug__" : Str)) = false) (hg2 : Gl X x2) (m2 : X.mg x2 = some (.ref c2)) (d2 : (x2 == ("__debug__" : Str)) = false) (hg3 : Gl X x3) (m3 : X.mg x3 = some (.ref c3)) (d3 : (x3 == ("__debug__" : Str)) = false)
    (hb : ∀ (W : WX) (pn : List (Addr × Obj)) (xe : Value → Shared → Prop), Takes (X.tr pn xe) W → PassesOwn (model X.prog X.w) X.A X.env xe → PSs (X.tr pn xe) body (tb W))
    (hsu : ∀ (a : Addr) (oe : Obj) (cls : Value) (d : Option Addr) (pn : List (Addr × Obj)), Zc cls d oe → (∃ vs, oe.data = .fields vs) → PSs (X.suite a ((a, oe) :: pn)) (b₀ :: suite) (ts a cls d)) :
    PS X (.Try body [.ExceptHandler (some (.Tuple [.Name x1 p1, .Name x2 p2, .Name x3 p3] tk tp)) (some n) (b₀ :: suite) pos'] [] [] pos) (fun D σ H => tb (wAs3 X.K [.ref c1, .ref c2, .ref c3] i ts D) D σ H) := by
  refine ⟨fun pins s0 σ H D I hh => ?_⟩
  have ok0 := I.ok
  have frames : X.A.frames = some (X.env :: X.outer) := ok0.frames.trans (by rw [hst])
  refine wpAny_Try_except ?_
  refine wpAny_mono ((hb (wAs3 X.K [.ref c1, .ref c2, .ref c3] i ts D) (X.pn ++ pins) (fun v t1 => wpAny (model X.prog X.w) X.A (noteFrame v X.env) (fun _ t2 => wpAny (model X.prog X.w) X.A (setFlight v none) (fun _ t3 =>
    wpAny (model X.prog X.w) X.A (handleBy v X.env [.ExceptHandler (some (.Tuple [.Name x1 p1, .Name x2 p2, .Name x3 p3] tk tp)) (some n) (b₀ :: suite) pos']) (SP X pins D) X.xe t3) X.xe t2) X.xe t1) (fun u t hx => ?_) PassesOwn.looking).run [] s0 σ H D (I.toTry _) hh) (fun fl t hy => ?_) (fun v t hv => hv)
  · obtain ⟨a, B, sI, pins', σ1, H1, cls, d, rfl, J0, nb, up, sky, na, eo, ag, hm, hgo⟩ := hx
    have J1 : Inv X pins σ1 H1 sI := J0.ofTry ok0
    have sky1 : Sky B (X.env :: X.outer) a (Zc cls d) X.env.locals t.heap := by rw [← hst]; exact sky
    show wpAny (model X.prog X.w) X.A (noteFrame (.ref a) X.env) _ _ _
    refine Sky.land Zc.steady frames hfr sky1 fun g3 fl3 up3 => ?_
    have L3 : Inv X pins σ1 H1 { t with heap := g3 } := J1.landed nb fl3.1 (up.trans up3) eo ag
    obtain ⟨o3, v3, he3, hz3, hd3⟩ := fl3.there
    have apart : ∀ {g : Heap} {o : Obj} {vs : Array Value}, g.FunFrames B (X.env :: X.outer) → g.get? a = some o → o.data = .fields vs → a ∉ frs (X.env :: X.outer) := fun {g o vs} ff e dd hin => by
      obtain ⟨_, o', e', hne⟩ := ff.mem hin
      rw [e] at e'
      cases e'
      exact hne _ dd
    have out3 := apart fl3.2.2.1 he3 hd3
    have nL : a ≠ X.env.locals := fun z => out3 (List.mem_filterMap.mpr ⟨X.env, List.mem_cons_self, by rw [hfr, z]⟩)
    have nF : a ∉ X.fs := fun hin => by
      obtain ⟨ev, hev, q⟩ := List.mem_filterMap.mp hin
      exact out3 (List.mem_filterMap.mpr ⟨ev, List.mem_cons_of_mem _ hev, q⟩)
    have S3 := L3.suite he3 hd3 na nL nF
    refine wpAny_handleBy_cons (codeAny_handlers_test ?_) (by intro q; cases q)
    -- the tuple of the classes
    refine wpAny_Tuple_spliced (Calls.spliced_cons (ld_glob (X := X.suite a ((a, o3) :: (X.pn ++ pins))) S3 hg1 m1 (Calls.spliced_cons (ld_glob (X := X.suite a ((a, o3) :: (X.pn ++ pins))) S3 hg2 m2 (Calls.spliced_cons (ld_glob (X := X.suite a ((a, o3) :: (X.pn ++ pins))) S3 hg3 m3 (Calls.spliced_nil ⟨(show 3 ≤ sizeLine by decide), ?_⟩) d3)) d2)) d1))
    have kp : ∀ b o, g3.get? b = some o → (g3.push { cls := .type "tuple", data := .seq [Value.ref c1, Value.ref c2, Value.ref c3].toArray }).get? b = some o := fun b o e => Heap.get?_push_of_some _ e
    have fl4 := flies_on fl3 kp
    have look : PySem.W.Looks (model X.prog X.w) (g3.push { cls := .type "tuple", data := .seq [Value.ref c1, Value.ref c2, Value.ref c3].toArray }) (typeOf (.ref a)) cls := fun A Q E t' k q => wpAny_typeOf_ref (k _ _ (kp _ _ he3)) (by rw [hz3.1]; exact q)
    have yes := PySem.W.exm_tup3 (M := model X.prog X.w) (tp := g3.objs.size) (L3.kIn.keeps kp) look (Heap.get?_push_size _ rfl) hm
    refine yes.here ?_
    refine codeAny_handlers_suite_as ?_
    refine HandSPX.lands_againZ fl4 fun g5 fl5 up5 => ?_
    have up4 : g3.UpToSlots (g3.push { cls := .type "tuple", data := .seq [Value.ref c1, Value.ref c2, Value.ref c3].toArray }) := Heap.UpToSlots.of_keeps kp
    have L5 : Inv X pins σ1 H1 { t with heap := g5 } := J1.landed nb fl5.1 (((up.trans up3).trans up4).trans up5) eo ag
    obtain ⟨o5, v5, he5, hz5, hd5⟩ := fl5.there
    have S5 := L5.suite he5 hd5 na nL nF
    refine store_ok (X := X.suite a ((a, o5) :: (X.pn ++ pins))) (v := .ref a) S5 nd hi (Or.inl hloc) rfl (fun t6 S6 => ?_) (.inr hloc)
    refine wpAny_mono ((hsu a o5 cls d (X.pn ++ pins) hz5 ⟨_, hd5⟩).run [] t6 _ H1 _ S6 (hgo a na)) (fun fl t7 hz => ?_) (fun _ _ z => False.elim z)
    have close : ∀ {σ7 : L2.St} {H7 : Hp} {R : Shared → Prop}, Inv (X.suite a ((a, o5) :: (X.pn ++ pins))) [] σ7 H7 t7 → (∀ t8, Inv X pins (σ7.set i none) H7 t8 → R t8) → wpAny (model X.prog X.w) X.A (do bindName X.env n .none; unbindBehindTheSuite X.env n pos') (fun _ t8 => R t8) X.xe t7 := fun S7 hR => gone_ok (S7.unsuite ok0) nd hi hloc hR
    match fl, hz with
    | .next, hz =>
      obtain ⟨σ7, H7, S7, q7⟩ := hz
      exact close S7 fun t8 J8 => ⟨_, _, J8, q7⟩
    | .brk, hz =>
      obtain ⟨σ7, H7, S7, q7⟩ := hz
      exact close S7 fun t8 J8 => ⟨_, _, J8, q7⟩
    | .cont, hz =>
      obtain ⟨σ7, H7, S7, q7⟩ := hz
      exact close S7 fun t8 J8 => ⟨_, _, J8, q7⟩
    | .ret u, hz =>
      obtain ⟨v7, σ7, H7, S7, r7, q7⟩ := hz
      exact close S7 fun t8 J8 => ⟨_, _, _, J8, r7, q7⟩
  · match fl, hy with
    | .next, hy =>
      obtain ⟨σ1, H1, J1, q⟩ := hy
      exact wpAny_execs_nil ⟨σ1, H1, J1.ofTry ok0, q⟩
    | .brk, hy =>
      obtain ⟨σ1, H1, J1, q⟩ := hy
      exact ⟨σ1, H1, J1.ofTry ok0, q⟩
    | .cont, hy =>
      obtain ⟨σ1, H1, J1, q⟩ := hy
      exact ⟨σ1, H1, J1.ofTry ok0, q⟩
    | .ret u, hy =>
      obtain ⟨v, σ1, H1, J1, r, q⟩ := hy
      exact ⟨v, σ1, H1, J1.ofTry ok0, r, q⟩
end
end J
/-! J31: a property of what may raise; defs that make lambdas. -/
namespace J
open PySem PySem.Spec
open PyProof.Rows L2
/-- what follows the making of C(d) -/
def mkThen (r : Ent) (μ μ' : Sto) : Option (Addr × List (Str × PyData)) → Res
  | none => .ok r μ'
  | some cf => .rse cf.1 cf.2 μ
section
variable {X : Cx} {W : WX} {ρ : REnv} {μ μ1 μ2 : Sto} {o : Expr} {g f : Str} {C : Addr} {d : PyData} {k : Nat} {cn : Con} {r : Ent} {pos : Pos} {oo : Option (Addr × List (Str × PyData))}
theorem EVR.prop (ho : EVR X W o ρ μ (mkRes C g d μ1 oo)) (cl : Cls X.K C) (hp : Prp X.prog X.w X.K X.mg X.base C f k cn) (hr : Room (k + 1) X.A) (hC : oo = none → cn [.obj C [(g, d)]] μ1 r μ2) (hb : attributeBase o f X.env (eval o X.env) = eval o X.env := by rfl) : EVR X W (.Attribute o f pos) ρ μ (mkThen r μ1 μ2 oo) := by
  intro w σ H m s Q q
  obtain ⟨p0, gf, fd, F, po, bi⟩ := hp.ex
  refine ⟨_, pe_prop (E := E0) (p_ex (e := o)) cl po F hr bi .nil pass0 hb, ?_⟩
  refine ho w σ H m s _ ?_
  cases oo with
  | some cf => exact q
  | none =>
    intro v H1 m1 f1 h1
    have h1' := h1
    obtain ⟨x, dx, ws, rfl, hx, hn, hd⟩ := h1
    exact ⟨x, dx, ws, rfl, (dl_some hx).2, w, μ1, _, r, μ2, m1, .cons h1' .nil, rfl, hC rfl, fun v H' m2 f2 h2 => q v H' m2 (f1.trans f2) h2⟩
end
/-- what a def that makes lambdas must have: its code object, its table -/
def LamB (K : PySem.W.Frag) (mg : Str → Option Value) (base : Heap) (x : Str) : Prop := ∃ c P, lamTab K x = some (c, P) ∧ LamX.TabB base mg c P ∧ x ∈ lamDefs ∧ ∀ p ∈ tabsK K, p.1 = P → p.2 = x ++ ".<locals>." ++ "<lambda>"
structure LamD (K : PySem.W.Frag) (mg : Str → Option Value) (base : Heap) (x : Str) (cdv : Value) : Prop where
  ex : ∃ c P, lamTab K x = some (c, P) ∧ cdv = .ref c ∧ LamX.TabB base mg c P ∧ x ∈ lamDefs ∧ ∀ p ∈ tabsK K, p.1 = P → p.2 = x ++ ".<locals>." ++ "<lambda>"
section
variable {w : World} {P : Program} {K : PySem.W.Frag} {base : Heap} {mg : Str → Option Value}
theorem funGL {x : Str} {st : Stmt} {f : Addr} {fd : FuncData} {N ps : List Str} {k : Nat} {sp : Sp} (F : Fun K x x st f fd) (hm : mg x = some (.ref f)) (inB : K.In base) (nsB : base.Ns mainGlobals mg) (B : LamB K mg base x) (Sc : FnScope N ps (defScope st)) (many : ∀ xs G R E, sp xs G R E → xs.length = ps.length)
    (hb : ∀ (cdv : Value) (B : Around) (o : List Env) (t : Shared) (G : Hp) (xs : List V) (R : VK) (E : XK), LamD K mg base x cdv → B.guards = some [] → Room k (B.deeper (envOfC x (defScope st) t.heap.objs.size f cdv)) → sp xs G R E →
      ∃ T, PSs (cxOf CX0 P w K mg base N x (defScope st) f cdv B o t G E).nox (defBody st) T ∧ T { nx := fun _ G' => R .non G', rt := R } (L2.start N xs) G) : FnG P w K mg base (k + 1) f fd ps sp := by
  obtain ⟨oc, od, kV, doc, pm, an, cdv, ct, osl, rfl, lk, hcd⟩ := F.ex
  obtain ⟨c, Pt, ht, TB, hx, hu⟩ := B
  have ec : cdv = .ref c := PySem.W.law_code inB nsB (lamTab_in ht) hm (inB _ _ lk) rfl
  refine fnG_of lk hcd Sc many fun B o t G R E hgd room hsp z => ?_
  obtain ⟨T, hT, hq⟩ := hb cdv B o t G R E hgd ⟨c, Pt, ht, ec, TB, hx, hu⟩ room hsp z
  exact ⟨T, hT.nox, hq⟩
theorem Df.calGL {x : Str} {st : Stmt} {N ps : List Str} {k : Nat} {C : Con} (D : Df K mg x st) (inB : K.In base) (nsB : base.Ns mainGlobals mg) (B : LamB K mg base x) (Sc : FnScope N ps (defScope st))
    (hb : ∀ (kV doc pm : Value) (an : Option Addr) (cdv ct : Value) (us : List Value), us.length = ps.length → bindArgs (PySem.W.fnOf x x (defArgs st) (defBody st) (defScope st) .none kV doc pm an cdv ct) ⟨us, []⟩ = pure (ps.zip us))
    (hN : ps.length ≤ N.length)
    (body : ∀ (f : Addr) (cdv : Value) (A : Around) (outer : List Env) (s : Shared) (H : Hp) (E : XK), LamD K mg base x cdv → A.guards = some [] → Room k (A.deeper (envOfC x (defScope st) s.heap.objs.size f cdv)) → ∀ rs μ r μ', C rs μ r μ' →
      ST (cxOf CX0 P w K mg base N x (defScope st) f cdv A outer s H E).nox W0 μ.length (defBody st) (rs.map some ++ List.replicate (N.length - rs.length) none) μ (PostR r μ')) : CalG P w K mg base x (k + 1) ps C := by
  obtain ⟨f, fd, F, hm⟩ := D.ex
  refine ⟨f, fd, funGL F hm inB nsB B Sc (fun xs G R E h => ?_) (fun cdv B o t G xs R E hL hgd room h => ?_), hm, F.kp, F.binds hb⟩
  · obtain ⟨w0, μ, rs, r, μ', _, hv, hl, _⟩ := h
    exact hv.1.trans hl
  · obtain ⟨w0, μ, rs, r, μ', m, hv, hl, hC, q⟩ := h
    have hw : w0.cut μ.length = w0 := by
      show (⟨w0.α.take μ.length, w0.ξ⟩ : Wd) = w0
      rw [← m.len, List.take_length]
    refine body f cdv B o t G E hL hgd room rs μ r μ' hC w0 _ G _ (Nat.le_of_eq m.len.symm) m (sl_start hv (by omega)) fun oo ho => ?_
    match oo, ho with
    | .ret r2 μ2, ho =>
      obtain ⟨rfl, rfl⟩ := ho
      intro v G' m' f' hv'
      rw [hw] at m' hv'
      exact q v G' m' f' hv'
end
section
variable {X : Cx} {ρ : REnv} {μ μ1 μ2 : Sto} {e : Expr} {es : List Expr} {p pos : Pos} {rs : List Ent} {r : Ent} {n : Str} {k : Nat} {ps : List Str}
theorem EV.callG {C : Con} (F : CalG X.prog X.w X.K X.mg X.base n k ps C) (hgd : X.A.guards = some []) (hr : Room k X.A) (ha : AV X (e :: es) ρ μ rs μ1) (hC : C rs μ1 r μ2) (hl : rs.length = ps.length := by rfl)
    (hg : Gl X n := by rfl) (hdb : (n == ("__debug__" : Str)) = false := by decide) (he : starEach (e :: es) X.env = (false, eval e X.env) :: starEach es X.env := by rfl) (hpl : (backTo pos (starEach es X.env)).any (·.1) = false := by rfl) :
    EV X (.Call (.Name n p) (e :: es) [] pos) ρ μ r μ2 := by
  intro w σ H m s Q q
  obtain ⟨f, fd, G, hm, hk, hb⟩ := F.ex
  refine ⟨tCall (SpV X.K ps C) [] E0 (AX X (e :: es)), ⟨fun pins s0 σ0 H0 Q0 I h => ?_⟩, ?_⟩
  · refine wpAny_Call_Name_kw (ld_glob I hg hm ?_ hdb)
    refine PySem.W.callWith_K (h₀ := X.base) I.ok.mod.kin hk (thn ((p_ax (e := e :: es)).run pos pins s0 σ0 H0 _ I h) fun us s1 ⟨vs, H1, I1, rv, z⟩ => ⟨I1.kIn, ?_⟩) he hpl
    have z' : SpV X.K ps C (vs ++ []) H1 Q0 E0 := z
    rw [List.append_nil] at z'
    exact runG G hgd hr hb I1 rv z'
  · refine ha w σ H m s _ fun vs H1 m1 f1 h1 => ?_
    exact ⟨w, μ1, rs, r, μ2, m1, by rw [List.append_nil]; exact h1, hl, hC, fun v H2 m2 f2 h2 => q v H2 m2 (f1.trans f2) h2⟩
/-- a text that is not too long -/
def EVS (X : Cx) (e : Expr) (ρ : REnv) (μ : Sto) (s : Str) (n : Nat) : Prop := EV X e ρ μ (Ss s) μ ∧ s.length ≤ n
theorem EVS.ev {s : Str} {n : Nat} (h : EVS X e ρ μ s n) : EV X e ρ μ (Ss s) μ := h.1
theorem EVS.add {a b : Expr} {s t : Str} {n m : Nat} (h : EVS X a ρ μ s n) (g : EVS X b ρ μ t m) (hs : n + m ≤ 1000000 := by decide) : EVS X (.BinOp a .Add b pos) ρ μ (s ++ t) (n + m) := by
  have h1 := h.2
  have h2 := g.2
  exact ⟨oAddS h.1 g.1 (sz (by omega)), by rw [strLen_append]; omega⟩
theorem EVS.str {s : Str} {n : Nat} {j} (h : s.length ≤ n := by decide) : EVS X (.Constant (.str s) j pos) ρ μ s n := ⟨EV.str, h⟩
end
end J
/-! JB: len(set(a list of truths)). -/
namespace JB
open PySem PySem.Spec
open PyProof.Rows L2
/-- how many of the two truths are there -/
def both (bs : List Bool) : Nat := (if bs.contains true = true then 1 else 0) + (if bs.contains false = true then 1 else 0)
theorem both_le (bs : List Bool) : both bs ≤ 2 := by
  unfold both
  split <;> split <;> omega
theorem both_snoc (bs : List Bool) (b : Bool) : both (bs ++ [b]) = if bs.contains b = true then both bs else both bs + 1 := by
  unfold both
  cases ht : bs.contains true <;> cases hf : bs.contains false <;> cases b <;> simp_all
theorem has_snoc (bs : List Bool) (b k : Bool) : (bs ++ [b]).contains k = (bs.contains k || decide (k = b)) := by
  cases b <;> cases k <;> simp
section
variable {prog : Program} {w : World} {A : Around} {R : Result → Shared → Prop} {it : Addr} {fp wr : List Addr} {G : Array GenState → Array GenState → Prop} {n : Nat} {P : Nat → Value → Prop} {St : Nat → Shared → Prop}
abbrev upto (val : Nat → Bool) (i : Nat) : List Bool := (List.range i).map val
theorem upto_succ (val : Nat → Bool) (i : Nat) : upto val (i + 1) = upto val i ++ [val i] := by simp [upto, List.range_succ]
/-- the filling of a new set -/
theorem fillB (W : WalksS prog w A.in1 it fp wr G n P St) (d : Addr) (hd : d ∉ fp) (val : Nat → Bool) (hv : ∀ i v, P i v → v = .bool (val i)) :
    ∀ (left i : Nat) (t : Shared), n - i = left → i ≤ n → St i t → t.heap.SetOf (PpSet.boolK prog w) d (fun k => (upto val i).contains k) (both (upto val i)) →
      (∀ t', Moved (d :: wr) G t t' → t'.heap.SetOf (PpSet.boolK prog w) d (fun k => (upto val n).contains k) (both (upto val n)) → R (.ok (.ret .none)) t') →
      codeAny (model prog w) A (.builtin "set.update.loop" ⟨[.ref d, .ref it], []⟩) R t := by
  have dw : d ∉ wr := fun z => hd (W.sub _ z)
  have sub2 : ∀ b ∈ wr, b ∈ d :: wr := fun b z => List.mem_cons_of_mem _ z
  intro left
  induction left with
  | zero =>
    intro i t e1 e2 st hS hR
    obtain rfl : i = n := by omega
    refine codeAny_builtin F.entry_set_update_loop ?_
    rw [Around.under_plainId F.plain_set_update_loop _]
    refine (show wpAny _ A.in1 (pyNext (.ref it) >>= _) _ _ t from wpAny_bind (W.done t _ _ st fun t' mv => ?_))
    refine (show wpAny _ A.in1 (ret Value.none) _ _ t' from wpAny_pure (hR t' (mv.mono sub2) ?_))
    obtain ⟨o, es, ep, tb, ho, more⟩ := hS
    exact ⟨o, es, ep, tb, mv.heap d _ dw ho, more⟩
  | succ left ih =>
    intro i t e1 e2 st hS hR
    have lt : i < n := by omega
    refine codeAny_builtin F.entry_set_update_loop ?_
    rw [Around.under_plainId F.plain_set_update_loop _]
    refine (show wpAny _ A.in1 (pyNext (.ref it) >>= _) _ _ t from wpAny_bind (W.item i t _ _ lt st fun v t' pv st' mv => ?_))
    obtain rfl := hv i v pv
    have hS1 : t'.heap.SetOf (PpSet.boolK prog w) d (fun k => (upto val i).contains k) (both (upto val i)) := by
      obtain ⟨o, es, ep, tb, ho, more⟩ := hS
      exact ⟨o, es, ep, tb, mv.heap d _ dw ho, more⟩
    refine (show wpAny _ A.in1 (holding [Value.bool (val i)] (setAdd d (.bool (val i))) >>= _) _ _ t' from wpAny_bind (wpAny_holding ?_))
    unfold setAdd
    refine wpAny_holding (wpAny_bind ((PpSet.boolK prog w).pyHash (k := val i) (PpSet.boolK_is _ _ _) ?_))
    have rm : both (upto val i) + 1 < scanBound := Nat.lt_of_le_of_lt (Nat.succ_le_succ (both_le _)) (by decide)
    refine wpAny_setAddHashed_of (knd := PpSet.boolK prog w) (k := val i) (s := { t' with toks := t'.toks + 1 }) (PpSet.boolK_is _ _ _) rfl hS1 rm fun g' same hS2 => ?_
    have hS3 : g'.SetOf (PpSet.boolK prog w) d (fun k => (upto val (i + 1)).contains k) (both (upto val (i + 1))) := SetOf_congr hS2 (fun k => by rw [upto_succ, has_snoc]) (by rw [upto_succ, both_snoc])
    refine wpAny_pure ⟨plainId_quiet F.plain_set_update_loop _, ih (i + 1) _ (by omega) lt (W.frame _ t' _ _ st' (Nat.le_succ _) fun b hb o e => ?_) hS3 fun t2 mv2 hS4 => ?_⟩
    · exact (same.2 b fun z : b = d => hd (z ▸ hb)).trans e
    · refine hR t2 (Moved.trans W.gtrans ((mv.mono sub2).then_heap (Nat.le_succ _) fun b o hb e => ?_) mv2) hS4
      exact (same.2 b fun z : b = d => hb (z ▸ List.mem_cons_self)).trans e
end
section
variable {prog : Program} {w : World} {A : Around} {E : Value → Shared → Prop} {t : Shared}
set_option maxHeartbeats 8000000 in
/-- set(xs), xs a list of truths -/
theorem setOfTruths {l : Addr} {its : Array Value} {bs : List Bool} {Q : Value → Shared → Prop} (calm : A.handled = none) (isl : t.heap.IsList l its) (hv : ∀ (i : Nat) (v : Value), its[i]? = some v → v = Value.bool (bs.getD i false)) (hn : its.size = bs.length)
    (k : ∀ (g : Heap) (tk : Nat), g.SetOf (PpSet.boolK prog w) t.heap.objs.size (fun b => bs.contains b) (both bs) → (∀ b o, b < t.heap.objs.size → t.heap.get? b = some o → g.get? b = some o) → Q (.ref t.heap.objs.size) { t with heap := g, toks := tk }) :
    wpAny (model prog w) A (call (.type "set") [.ref l]) Q E t := by
  have all : upto (fun i => bs.getD i false) its.size = bs := by
    refine List.ext_getElem (by simp [hn]) fun j h1 h2 => ?_
    simp [List.getD_eq_getElem?_getD, List.getElem?_eq_getElem h2]
  obtain ⟨c0, c1, isMro⟩ := PySem.F.called_set.mro
  have isMade := PySem.F.called_set.made
  have isSub := PySem.F.called_set.sub
  refine wpAny_call (codeAny_of_tree ?_)
  refine (show wpAny _ _ (callAny (.type "set") _) _ _ _ from wpAny_pure ⟨Code.quiet_builtin _ (by decide +kernel), codeAny_builtin PySem.F.entry_type_call ?_⟩)
  rw [Around.under_plain (weight_type_call_type "set" [.ref l] []) rfl]
  have isNot := PySem.F.called_set.notType
  have isCan := PySem.F.called_set.canCreate
  have isOk := PySem.F.typeCall_set_1 (.ref l)
  repeat (any_goals (first | assumption | wp_step))
  refine codeAny_mono (code_set_new_1 (.ref l) (E := E) (Q₁ := fun v t1 => ∃ led : Bool, v = .ref t.heap.objs.size ∧ t1 = { t with heap := t.heap.push { cls := .type "set", dict := none, data := .set #[] 0 (.fresh 0 0 led) } }) fun led => ⟨led, rfl, rfl⟩) fun r t1 hr => ?_
  match r, hr with
  | .error e, hr => exact hr
  | .ok (.ret v), hr =>
    obtain ⟨led, rfl, rfl⟩ := hr
    have here : (t.heap.push { cls := .type "set", dict := none, data := .set #[] 0 (.fresh 0 0 led) }).get? t.heap.objs.size = some { cls := .type "set", dict := none, data := .set #[] 0 (.fresh 0 0 led) } := Heap.get?_push_size _ rfl
    have isT : Shared.TypeIs { t with heap := t.heap.push { cls := .type "set", dict := none, data := .set #[] 0 (.fresh 0 0 led) } } (.ref t.heap.objs.size) "set" := ⟨_, here, rfl⟩
    have ini1 := PySem.F.called_set.init.lookup
    have ini2 := PySem.F.called_set.init.bind (.ref t.heap.objs.size)
    repeat (any_goals (first | assumption | wp_step))
    refine codeAny_mono (codeAny_call_builtin (R := wants (fun r t2 => r = .none ∧ ∃ g tk, t2 = { t with heap := g, toks := tk } ∧ g.SetOf (PpSet.boolK prog w) t.heap.objs.size (fun b => bs.contains b) (both bs) ∧ (∀ b o, b < t.heap.objs.size → t.heap.get? b = some o → g.get? b = some o)) E) PySem.F.called_set.init.plain PySem.F.entry_set_init (check_set_init_1 isT ?_)) fun r2 t2 hr2 => ?_
    · obtain ⟨⟨oc, od, oa, os⟩, hol, e1, nl, e2⟩ := isl
      simp only at e1 e2
      subst e1 e2
      have hol2 : (t.heap.push { cls := .type "set", dict := none, data := .set #[] 0 (.fresh 0 0 led) }).get? l = some { cls := .type "list", dict := od, data := .seq its nl, slots := os } := Heap.get?_push_of_some _ hol
      have no1 := PySem.F.sub_list_set
      have no2 := PySem.F.sub_list_frozenset
      have no3 : (Value.type "list" == Value.type "dict") = false := by decide
      have isl2 : (t.heap.push { cls := .type "set", dict := none, data := .set #[] 0 (.fresh 0 0 led) }).IsList l its := ⟨_, hol2, rfl, nl, rfl⟩
      unfold Builtin.«set.__init__» noKeywords Builtin.Frozenset.updateFrom
      generalize hIt : pyIter = itr
      wp_walk
      subst hIt
      refine wpAny_pyIter_list isl2 (wpAny_bind (wpAny_runValue ?_))
      have ll : l < t.heap.objs.size := Heap.lt_size hol
      have calm3 : A.in1.in1.in1.handled = none := by simp [calm]
      have ne1 : l ≠ (t.heap.push { cls := .type "set", dict := none, data := .set #[] 0 (.fresh 0 0 led) }).objs.size := by
        rw [Heap.size_push]
        exact Nat.ne_of_lt (Nat.lt_succ_of_lt ll)
      have out : t.heap.objs.size ∉ [(t.heap.push { cls := .type "set", dict := none, data := .set #[] 0 (.fresh 0 0 led) }).objs.size, l] := by
        rw [Heap.size_push]
        simp only [List.mem_cons, List.not_mem_nil, or_false, not_or]
        exact ⟨Nat.ne_of_lt (Nat.lt_succ_self _), Nat.ne_of_gt ll⟩
      refine fillB ((Walks.list calm3 _ l ne1 its).toS) t.heap.objs.size out (fun i => bs.getD i false) hv (its.size - 0) 0 _ (by omega) (Nat.zero_le _) ⟨⟨_, Heap.get?_push_size _ rfl, rfl, rfl⟩, isl2.push _⟩ ?start ?fin
      case start =>
        have new : ((t.heap.push { cls := .type "set", dict := none, data := .set #[] 0 (.fresh 0 0 led) }).push { cls := .type "list_iterator", data := .fields #[.ref l, .int 0 0] }).get? t.heap.objs.size = some { cls := .type "set", dict := none, data := .set #[] 0 (.fresh 0 0 led) } := Heap.get?_push_of_some _ here
        exact SetOf_congr ((setObjOf_fresh (knd := PpSet.boolK prog w) led).setOf new (by unfold scanBound; omega)) (fun _ => rfl) rfl
      case fin =>
        intro t3 mv hS
        rw [all] at hS
        obtain ⟨g, gs, dr, tk, o3⟩ := t3
        obtain rfl : gs = t.gens := mv.gens
        obtain rfl : dr = t.drawn := mv.drawn
        obtain rfl : o3 = t.os := mv.os
        refine (show wpAny _ _ _ _ _ _ from wpAny_pure ?_)
        refine (show wpAny _ _ (ret Value.none) _ _ _ from wpAny_pure ⟨rfl, g, tk, rfl, hS, fun b o hb e => ?_⟩)
        have b1 : b ≠ t.heap.objs.size := Nat.ne_of_lt hb
        have b2 : b ≠ (t.heap.push { cls := .type "set", dict := none, data := .set #[] 0 (.fresh 0 0 led) }).objs.size := by
          rw [Heap.size_push]
          exact Nat.ne_of_lt (Nat.lt_succ_of_lt hb)
        exact mv.heap b o (by simp only [List.mem_cons, List.not_mem_nil, or_false, not_or]; exact ⟨b1, b2⟩) (Heap.get?_push_of_some _ (Heap.get?_push_of_some _ e))
    · match r2, hr2 with
      | .error e, hr2 => exact hr2
      | .ok (.ret v), hr2 =>
        obtain ⟨rfl, g, tk, rfl, hS, keep⟩ := hr2
        repeat (any_goals (first | assumption | wp_step))
        exact k _ _ hS keep
end
end JB
/-! J32: how many truths; dicts of texts, asked and filled. -/
namespace J
open PySem PySem.Spec
open PyProof.Rows L2
theorem truths_at : ∀ {bs : List Bool} {us : List Value}, Vals (bs.map V.bl) us → ∀ (i : Nat) (v : Value), us[i]? = some v → v = Value.bool (bs.getD i false)
  | [], _, h, i, v, e => by cases h; simp at e
  | b :: bs, _, h, i, v, e => by
    cases h with
    | cons r t =>
      match i, e with
      | 0, e =>
        simp at e
        subst e
        exact r
      | i + 1, e => exact truths_at t i v (by simpa using e)
theorem dqAll_bools : ∀ {bs : List Bool} {H : Hp} {vs : List V}, DqAll H vs (bs.map PyData.bool) → vs = bs.map V.bl
  | [], _, _, h => by cases h; rfl
  | b :: bs, _, _, h => by
    cases h with
    | cons h1 h2 => cases h1; rw [dqAll_bools h2]; rfl
section
variable {X : Cx} {ρ : REnv} {μ μ1 μ2 : Sto} {a b e o : Expr} {pos p p2 q : Pos} {bs : List Bool}
theorem pe_truths {ta : TE} (hc : X.calm = true) (hg : Gl X "len") (hm : X.mg "len" = none) (hg2 : Gl X "set") (hm2 : X.mg "set" = none) (ha : PE X a ta) (na : starEach [a] X.env = (false, eval a X.env) :: starEach [] X.env := by rfl) :
    PE X (.Call (.Name "len" p) [.Call (.Name "set" p2) [a] [] q] [] pos) (fun σ H Q => ta σ H fun x H1 => ∃ (l : Addr) (bs : List Bool), x = .ref l ∧ SqL X.K H1 l (bs.map V.bl) ∧ Q (.int (JB.both bs : Nat)) H1) := by
  refine ⟨fun pins s0 σ H Q I hh => ?_⟩
  refine Call_ (ld_blt I hg hm PySem.boot_len (PyProof.Rows.callWith_builtin1 (PyProof.Rows.args_cons ?_ rfl) rfl rfl))
  refine Call_ (ld_blt I hg2 hm2 PyProof.Rows.boot_set (PyProof.Rows.callWith_type1 (PyProof.Rows.args_cons (thn (ha.run pins s0 σ H _ I hh) fun v s1 ⟨x, H1, I1, r1, q1⟩ => PyProof.Rows.args_nil ?_) na) na rfl))
  obtain ⟨l, bs, rfl, seq, hq⟩ := q1
  obtain rfl : v = Value.ref l := r1
  obtain ⟨its, r, pl, hz⟩ := I1.list seq
  have size : its.toArray.size = bs.length := by rw [List.size_toArray, ← r.length, List.length_map]
  refine JB.setOfTruths (I1.ok.hd hc) pl.isList (bs := bs) (fun i v e => truths_at r i v (by simpa using e)) size fun g tk hS keep => PyProof.Rows.args_nil ?_
  obtain ⟨ob, es, ep, t, ho, hex, hd, _, _, _, hf, hn⟩ := hS
  have I2 : Inv X pins σ H1 { s1 with heap := g, toks := tk } := I1.kept fun b o e => keep b o (Heap.lt_size e) e
  refine call_len_set ho hex hd hf (by rw [hn]; have := JB.both_le bs; omega) ⟨.int (JB.both bs : Nat), H1, I2.tok _, ⟨_, by rw [hn]⟩, hq⟩
theorem EV.truths (hc : X.calm = true) (hm : X.mg "len" = none) (hm2 : X.mg "set" = none) (ha : EV X a ρ μ (Ls (bs.map .bool)) μ1) (hg : Gl X "len" := by rfl) (hg2 : Gl X "set" := by rfl) (na : starEach [a] X.env = (false, eval a X.env) :: starEach [] X.env := by rfl) :
    EV X (.Call (.Name "len" p) [.Call (.Name "set" p2) [a] [] q] [] pos) ρ μ (Ii (JB.both bs : Nat)) μ1 := by
  intro w σ H m s Q qq
  refine ⟨_, pe_truths hc hg hm hg2 hm2 (p_ex (e := a)) na, ?_⟩
  refine ha w σ H m s _ fun v H1 m1 f1 h1 => ?_
  cases h1 with
  | @lst c vs _ hx hd => exact ⟨c, bs, rfl, SqL.of (by rw [← dqAll_bools hd]; exact (dl_some hx).2), qq _ H1 m1 f1 (Dq.int _)⟩
end
end J
/-! J33: texts between texts; dicts of texts, asked and filled. -/
namespace J
open PySem PySem.Spec
open PyProof.Rows L2
def leS (i j : Str) : Bool := !decide (j.cps.toList < i.cps.toList)
section
variable {X : Cx} {ρ : REnv} {μ μ1 μ2 μ3 : Sto} {a b c e o : Expr} {pos p2 p : Pos} {s t u : Str}
theorem cChainS (ha : EV X a ρ μ (Ss s) μ1) (hb : EV X b ρ μ1 (Ss t) μ2) (hc : EV X c ρ μ2 (Ss u) μ2)
    (hm : lastMarks [.LtE, .LtE] [b, c] = false := by with_unfolding_all rfl) : EV X (.Compare a [.LtE, .LtE] [b, c] pos) ρ μ (Bb (leS s t && leS t u)) μ2 := by
  intro w σ H m sl Q q
  refine ⟨_, pe_chain op_le_str op_le_str (p_ex (e := a)) (p_ex (e := b)) (p_ex (e := c)) hm, ?_⟩
  refine ha w σ H m sl _ fun v H1 m1 f1 h1 => ?_
  cases h1
  refine hb w σ H1 m1 (sl.fr f1) _ fun v H2 m2 f2 h2 => ?_
  cases h2
  refine ⟨s, t, rfl, rfl, _, rfl, ?_⟩
  cases hk : leS s t with
  | true =>
    have hk' : (!decide (t.cps.toList < s.cps.toList)) = true := hk
    rw [hk']
    refine iteT ?_
    refine hc w σ H2 m2 ((sl.fr f1).fr f2) _ fun v H3 m3 f3 h3 => ?_
    cases h3
    refine ⟨t, u, rfl, rfl, ?_⟩
    have := q (.bl (leS t u)) H3 m3 ((f1.trans f2).trans f3)
    rw [hk, Bool.true_and] at this
    exact this (Dq.bl _)
  | false =>
    have hk' : (!decide (t.cps.toList < s.cps.toList)) = false := hk
    rw [hk']
    refine iteF ?_
    have := q (.bl false) H2 m2 (f1.trans f2)
    rw [hk, Bool.false_and] at this
    exact this (Dq.bl _)
theorem tChainS (ha : EV X a ρ μ (Ss s) μ1) (hb : EV X b ρ μ1 (Ss t) μ2) (hc : EV X c ρ μ2 (Ss u) μ2)
    (hm : lastMarks [.LtE, .LtE] [b, c] = false := by with_unfolding_all rfl) : TV X (.Compare a [.LtE, .LtE] [b, c] pos) ρ μ (leS s t && leS t u) μ2 := by
  intro w σ H m sl Q q
  refine ⟨_, pt_chain op_le_str op_le_str (p_ex (e := a)) (p_ex (e := b)) (p_ex (e := c)) hm, ?_⟩
  refine ha w σ H m sl _ fun v H1 m1 f1 h1 => ?_
  cases h1
  refine hb w σ H1 m1 (sl.fr f1) _ fun v H2 m2 f2 h2 => ?_
  cases h2
  refine ⟨s, t, rfl, rfl, _, rfl, ?_⟩
  cases hk : leS s t with
  | true =>
    have hk' : (!decide (t.cps.toList < s.cps.toList)) = true := hk
    rw [hk']
    refine iteT ?_
    refine hc w σ H2 m2 ((sl.fr f1).fr f2) _ fun v H3 m3 f3 h3 => ?_
    cases h3
    refine ⟨t, u, rfl, rfl, _, rfl, ?_⟩
    have := q H3 m3 ((f1.trans f2).trans f3)
    rwa [hk, Bool.true_and] at this
  | false =>
    have hk' : (!decide (t.cps.toList < s.cps.toList)) = false := hk
    rw [hk']
    refine iteF ⟨_, rfl, ?_⟩
    have := q H2 m2 (f1.trans f2)
    rwa [hk, Bool.false_and] at this
end
/-! ### dicts of texts -/
abbrev KD := List (Str × PyData)
def kvE (kv : KD) : List Key := kv.map fun p => (.inr p.1 : Key)
def dkD (kv : KD) : PyData := .dict (((kvE kv).map keyD).zip (kv.map (·.2)))
def kget (kv : KD) (s : Str) : Option PyData := (kv.find? fun p => decide (p.1 = s)).map (·.2)
def putD (kv : KD) (s : Str) (d : PyData) : KD := if (kv.any fun p => decide (p.1 = s)) = true then kv.map (fun p => if p.1 = s then (p.1, d) else p) else kv ++ [(s, d)]
theorem keyD_inj {a b : Key} (h : keyD a = keyD b) : a = b := by
  cases a <;> cases b <;> simp [keyD] at h <;> rw [h]
theorem zip_injK : ∀ {ns ms : List Key} {ds es : List PyData}, ns.length = ds.length → ms.length = es.length → (ns.map keyD).zip ds = (ms.map keyD).zip es → ns = ms ∧ ds = es
  | [], [], [], [], _, _, _ => ⟨rfl, rfl⟩
  | [], m :: ms, [], e :: es, _, _, h => by simp at h
  | n :: ns, [], d :: ds, [], _, _, h => by simp at h
  | n :: ns, m :: ms, d :: ds, e :: es, h1, h2, h => by
    simp only [List.map_cons, List.zip_cons_cons, List.cons.injEq, Prod.mk.injEq] at h
    obtain ⟨⟨q, rfl⟩, h⟩ := h
    obtain rfl := keyD_inj q
    obtain ⟨rfl, rfl⟩ := zip_injK (by simpa using h1) (by simpa using h2) h
    exact ⟨rfl, rfl⟩
  | [], _, _ :: _, _, h1, _, _ => by simp at h1
  | _ :: _, _, [], _, h1, _, _ => by simp at h1
  | _, [], _, _ :: _, _, h2, _ => by simp at h2
  | _, _ :: _, _, [], _, h2, _ => by simp at h2
theorem dq_dk {H : Hp} {v : V} {kv : KD} (h : Dq H v (dkD kv)) : ∃ a kvs, v = .ref a ∧ H a = some (.dK kvs) ∧ kvs.map (·.1) = kvE kv ∧ DqAll H (kvs.map (·.2)) (kv.map (·.2)) := by
  unfold dkD at h
  generalize e : PyData.dict _ = d at h
  cases h with
  | @dic a kvs ks ds hx hn hd =>
    injection e with e
    have l1 : ks.length = ds.length := by rw [← hn, List.length_map, ← dqAll_len hd, List.length_map]
    obtain ⟨q1, q2⟩ := zip_injK (by simp [kvE]) l1 e
    exact ⟨a, kvs, rfl, hx, by rw [hn, q1], by rw [q2]; exact hd⟩
  | ins hx hn hd =>
    exfalso
    injection e with e
    cases kv with
    | nil => simp [kvE] at e
    | cons p kv =>
      simp only [kvE, List.map_cons, List.zip_cons_cons, List.cons.injEq, Prod.mk.injEq] at e
      exact absurd e.1.1 (by simp [keyD])
  | exn _ _ _ _ =>
    exfalso
    injection e with e
    cases kv with
    | nil => simp [kvE] at e
    | cons p kv =>
      simp only [kvE, List.map_cons, List.zip_cons_cons, List.cons.injEq, Prod.mk.injEq] at e
      exact absurd e.1.1 (by simp [keyD])
  | ex0 _ =>
    exfalso
    injection e with e
    cases kv with
    | nil => simp [kvE] at e
    | cons p kv =>
      simp only [kvE, List.map_cons, List.zip_cons_cons, List.cons.injEq, Prod.mk.injEq] at e
      exact absurd e.1.1 (by simp [keyD])
  | _ => cases e
def OptD (H : Hp) : Option V → Option PyData → Prop
  | some v, some d => Dq H v d
  | none, none => True
  | _, _ => False
theorem kget_val {H : Hp} {s : Str} : ∀ {kvs : List (Key × V)} {kv : KD}, kvs.map (·.1) = kvE kv → DqAll H (kvs.map (·.2)) (kv.map (·.2)) → OptD H (valV kvs (.inr s)) (kget kv s)
  | [], [], _, _ => trivial
  | [], p :: kv, h, _ => by simp [kvE] at h
  | q :: kvs, [], h, _ => by simp [kvE] at h
  | q :: kvs, p :: kv, h, hd => by
    simp only [kvE, List.map_cons, List.cons.injEq] at h
    simp only [List.map_cons] at hd
    cases hd with
    | cons d1 d2 =>
      have ih := kget_val (s := s) (kvs := kvs) (kv := kv) h.2 d2
      by_cases e : p.1 = s
      · have e2 : q.1 = Sum.inr s := by rw [h.1, e]
        rw [valV_pos e2]
        unfold kget
        rw [List.find?_cons, decide_eq_true e]
        exact d1
      · have e2 : ¬ q.1 = Sum.inr s := fun z => e (by rw [h.1] at z; exact Sum.inr.inj z)
        rw [valV_neg e2]
        unfold kget at ih ⊢
        rw [List.find?_cons, decide_eq_false e]
        exact ih
def rDIn : R2 := fun x y H Q => ∃ a o, y = .ref a ∧ DGet H a x o ∧ Q (.bl o.isSome) H
section
variable {X : Cx} {ρ : REnv} {μ μ1 μ2 μ3 : Sto} {a b c e o : Expr} {pos p2 p : Pos} {s t u : Str} {kv : KD} {d : PyData}
theorem op_dIn (hu : X.A.units + 1 < cLine) : OpR X (compareOp .In) rDIn := by
  intro pins s σ H x y v u Q I rx ry h
  obtain ⟨a, o, rfl, g, q⟩ := h
  obtain rfl : u = Value.ref a := ry
  exact d_in hu I g rx fun s' I' => ⟨.bl o.isSome, H, I', rfl, q⟩
theorem r2_dIn {K : PySem.W.Frag} : R2V K rDIn (Ss s) (.dat (dkD kv)) (Bb (kget kv s).isSome) μ := r2v_pure fun w H v u m ha hb => by
  cases ha
  obtain ⟨a, kvs, rfl, hx, hn, hd⟩ := dq_dk hb
  have hv := kget_val (s := s) hn hd
  have e : (valV kvs (.inr s)).isSome = (kget kv s).isSome := by
    cases q1 : valV kvs (.inr s) <;> cases q2 : kget kv s <;> rw [q1, q2] at hv <;> first | rfl | exact hv.elim
  refine ⟨_, Dq.bl _, fun Q q => ⟨a, valV kvs (.inr s), rfl, DGet.k (k := .inr s) (dl_some hx).2, ?_⟩⟩
  rw [e]
  exact q
theorem tDIn (hu : X.A.units + 1 < cLine) (ha : EV X a ρ μ (Ss s) μ1) (hb : EV X b ρ μ1 (.dat (dkD kv)) μ2) (hm : behindInMarks .In b = false := by rfl) : TV X (.Compare a [.In] [b] pos) ρ μ (kget kv s).isSome μ2 := TV.cmp (op_dIn hu) hm ha hb r2_dIn
theorem EV.dget (hu : X.A.units + 1 < cLine) (ho : EV X o ρ μ (.dat (dkD kv)) μ1) (hi : EV X e ρ μ1 (Ss s) μ2) (h : kget kv s = some d) (hs : NoSl e := by exact fun _ _ => rfl) : EV X (.Subscript o e pos) ρ μ (.dat d) μ2 := by
  intro w σ H m sl Q q
  refine ⟨_, pe_dget hu (p_ex (e := o)) (p_ex (e := e)) hs, ?_⟩
  refine ho w σ H m sl _ fun v H1 m1 f1 h1 => ?_
  refine hi w σ H1 m1 (sl.fr f1) _ fun u H2 m2 f2 h2 => ?_
  cases h2
  obtain ⟨a, kvs, rfl, hx, hn, hd⟩ := dq_dk (h1.fr f2)
  have hv := kget_val (s := s) hn hd
  rw [h] at hv
  cases q1 : valV kvs (.inr s) with
  | none => rw [q1] at hv; exact hv.elim
  | some z =>
    rw [q1] at hv
    have g := DGet.k (k := (.inr s : Key)) (dl_some hx).2
    rw [q1] at g
    exact ⟨a, z, rfl, g, q z H2 m2 (f1.trans f2) hv⟩
end
/-! ### a dict that is being filled: at D, kept out -/
def KvH (H : Hp) (w : Wd) (D : Addr) (kv : KD) : Prop := ∃ kvs, H D = some (.dK kvs) ∧ kvs.map (·.1) = kvE kv ∧ DqAll (dl H w.all) (kvs.map (·.2)) (kv.map (·.2))
theorem KvH.fr {K : PySem.W.Frag} {H H' : Hp} {w : Wd} {D : Addr} {kv : KD} {μ : Sto} (h : KvH H w D kv) (m : Mem K H w μ) (hD : D ∈ w.ξ) (f : Fr w.α H H') : KvH H' w D kv := by
  obtain ⟨kvs, e, hn, hd⟩ := h
  exact ⟨kvs, f D _ e (m.out D hD) (fun q z => by cases z), hn, dqAll_mono f.all _ _ hd⟩
theorem put_keys {s : Str} {v : V} {d : PyData} {H : Hp} (hv : Dq H v d) : ∀ {kvs : List (Key × V)} {kv : KD}, kvs.map (·.1) = kvE kv → DqAll H (kvs.map (·.2)) (kv.map (·.2)) →
    (kvs.any fun q => decide (q.1 = Sum.inr s)) = (kv.any fun p => decide (p.1 = s)) ∧ (kvs.map fun q => if q.1 = Sum.inr s then (q.1, v) else q).map (·.1) = kvE (kv.map fun p => if p.1 = s then (p.1, d) else p) ∧
    DqAll H ((kvs.map fun q => if q.1 = Sum.inr s then (q.1, v) else q).map (·.2)) ((kv.map fun p => if p.1 = s then (p.1, d) else p).map (·.2))
  | [], [], _, _ => ⟨rfl, rfl, .nil⟩
  | [], p :: kv, h, _ => by simp [kvE] at h
  | q :: kvs, [], h, _ => by simp [kvE] at h
  | q :: kvs, p :: kv, h, hd => by
    simp only [kvE, List.map_cons, List.cons.injEq] at h
    simp only [List.map_cons] at hd
    cases hd with
    | cons d1 d2 =>
      obtain ⟨i1, i2, i3⟩ := put_keys (s := s) hv (kvs := kvs) (kv := kv) h.2 d2
      unfold kvE at i2 ⊢
      by_cases e : p.1 = s
      · have e2 : q.1 = Sum.inr s := by rw [h.1, e]
        refine ⟨by rw [List.any_cons, List.any_cons, decide_eq_true e, decide_eq_true e2, Bool.true_or, Bool.true_or], ?_, ?_⟩
        · rw [List.map_cons, List.map_cons, List.map_cons, List.map_cons, i2, if_pos e, if_pos e2]
          rw [h.1]
        · rw [List.map_cons, List.map_cons, List.map_cons, List.map_cons, if_pos e, if_pos e2]
          exact .cons hv i3
      · have e2 : ¬ q.1 = Sum.inr s := fun z => e (by rw [h.1] at z; exact Sum.inr.inj z)
        refine ⟨by rw [List.any_cons, List.any_cons, decide_eq_false e, decide_eq_false e2, i1], ?_, ?_⟩
        · rw [List.map_cons, List.map_cons, List.map_cons, List.map_cons, i2, if_neg e, if_neg e2, h.1]
        · rw [List.map_cons, List.map_cons, List.map_cons, List.map_cons, if_neg e, if_neg e2]
          exact .cons d1 i3
theorem KvH.put {K : PySem.W.Frag} {H : Hp} {w : Wd} {D : Addr} {kv : KD} {μ : Sto} {s : Str} {v : V} {d : PyData} {kvs : List (Key × V)} (e : H D = some (.dK kvs)) (hn : kvs.map (·.1) = kvE kv) (hd : DqAll (dl H w.all) (kvs.map (·.2)) (kv.map (·.2))) (hD : D ∈ w.ξ) (hv : Dq (dl H w.all) v d) :
    KvH (upd H D (.dK (putK kvs (.inr s) v))) w D (putD kv s d) := by
  have g : Same (dl H w.all) (dl (upd H D (.dK (putK kvs (.inr s) v))) w.all) := fun b o hb => by
    have nt := dl_nt hb
    obtain ⟨n1, e1⟩ := dl_some hb
    exact dl_of n1 (by rw [upd_ne (show b ≠ D from fun z => n1 (List.mem_append_right _ (by rw [z]; exact hD)))]; exact e1) nt
  obtain ⟨a1, a2, a3⟩ := put_keys (s := s) hv hn hd
  refine ⟨_, upd_same, ?_, dqAll_mono g _ _ ?_⟩
  · unfold putK putD
    rw [a1]
    by_cases q : (kv.any fun p => decide (p.1 = s)) = true
    · rw [if_pos q, if_pos q]; exact a2
    · rw [if_neg q, if_neg q, List.map_append, hn]
      simp [kvE]
  · unfold putK putD
    rw [a1]
    by_cases q : (kv.any fun p => decide (p.1 = s)) = true
    · rw [if_pos q, if_pos q]; exact a3
    · rw [if_neg q, if_neg q, List.map_append, List.map_append]
      exact dqAll_append hd (.cons hv .nil)
theorem putD_len {kv : KD} {s : Str} {d : PyData} : (putD kv s d).length ≤ kv.length + 1 := by
  unfold putD
  split
  · rw [List.length_map]; omega
  · simp
def SD (X : Cx) (D : Addr) (sts : List Stmt) (ρ : REnv) (μ : Sto) (kv : KD) (P : REnv → KD → Prop) (R : KD → Prop) : Prop := ∀ w σ H Ee, D ∈ w.ξ → Mem X.K H w μ → Sl X.K H w σ ρ → KvH H w D kv → (∀ ρ' kv' σ' H', P ρ' kv' → Mem X.K H' w μ → Sl X.K H' w σ' ρ' → KvH H' w D kv' → Fr (D :: w.α) H H' → Ee.nx σ' H') →
  (∀ kv' H', R kv' → Mem X.K H' w μ → KvH H' w D kv' → Fr (D :: w.α) H H' → Ee.rt (.ref D) H') → SX X sts Ee σ H
theorem Fr.wide {S T : List Addr} {H H' : Hp} (f : Fr S H H') (h : ∀ b ∈ S, b ∈ T) : Fr T H H' := fun b o e n nt => f b o e (fun z => n (h b z)) nt
section
variable {X : Cx} {ρ ρ1 : REnv} {μ : Sto} {e ek ev tg iter : Expr} {rest body : List Stmt} {pos p' p2 : Pos} {x : Str} {r : Ent} {D : Addr} {kv : KD} {P : REnv → KD → Prop} {R : KD → Prop} {s : Str} {d : PyData} {ds : List PyData}
theorem SD.nil (h : P ρ kv) : SD X D [] ρ μ kv P R := fun w σ H Ee hD m sl hk q q2 => ⟨_, pss_nil, q ρ kv σ H h m sl hk .refl⟩
theorem SD.ret (h : EV X e ρ μ (.raw (.ref D)) μ) (hR : R kv) : SD X D (.Return (some e) pos :: rest) ρ μ kv P R := by
  intro w σ H Ee hD m sl hk q q2
  refine ⟨_, pss_cons (ps_ret (p_ex (e := e))) pss_never, ?_⟩
  refine h w σ H m sl _ fun v H1 m1 f1 hv => ?_
  obtain rfl : v = V.ref D := hv
  exact q2 kv H1 hR m1 (hk.fr m hD f1) (f1.wide fun b hb => List.mem_cons_of_mem _ hb)
theorem SD.mono {Q : REnv → KD → Prop} {sts : List Stmt} (h : SD X D sts ρ μ kv P R) (i : ∀ ρ kv, P ρ kv → Q ρ kv) : SD X D sts ρ μ kv Q R := fun w σ H Ee hD m sl hk q q2 => h w σ H Ee hD m sl hk (fun ρ' kv' σ' H' z => q ρ' kv' σ' H' (i _ _ z)) q2
theorem SD.set {i : Nat} (h : EV X e ρ μ r μ) (hN : X.N.Nodup) (hi : X.N[i]? = some x) (hx : Loc X.env.scope x) (hr : SD X D rest (ρ.set i (some r)) μ kv P R) (hs : swapsWith e (some (.Name x p')) pos.line X.env = pure false := by rfl)
    (hf : X.fn x = true ∨ X.env.scope.names.lookup x = some .local := by first | exact .inl rfl | exact .inr rfl | assumption) : SD X D (.Assign [.Name x p'] e pos :: rest) ρ μ kv P R := by
  intro w σ H Ee hD m sl hk q q2
  refine ⟨_, pss_cons (ps_set hN hi hx (p_ex (e := e)) hs hf) p_sx, ?_⟩
  refine h w σ H m sl _ fun v H1 m1 f1 h1 => ?_
  exact hr w _ H1 Ee hD m1 ((sl.fr f1).set h1) (hk.fr m hD f1) (fun ρ' kv' σ' H' z m' s' k' f' => q ρ' kv' σ' H' z m' s' k' ((f1.wide fun b hb => List.mem_cons_of_mem _ hb).trans f')) fun kv' H' z m' k' f' => q2 kv' H' z m' k' ((f1.wide fun b hb => List.mem_cons_of_mem _ hb).trans f')
theorem Mem.outD {K : PySem.W.Frag} {H : Hp} {w : Wd} {o : HO} (m : Mem K H w μ) (hD : D ∈ w.ξ) (po : Pl o) : Mem K (upd H D o) w μ ∧ Same (dl H w.all) (dl (upd H D o) w.all) := by
  have g : Same (dl H w.all) (dl (upd H D o) w.all) := fun b u hb => by
    have nt := dl_nt hb
    obtain ⟨n1, e1⟩ := dl_some hb
    exact dl_of n1 (by rw [upd_ne (show b ≠ D from fun z => n1 (List.mem_append_right _ (by rw [z]; exact hD)))]; exact e1) nt
  refine ⟨⟨m.nd, m.len, fun k a xs h1 h2 => ?_, m.out, fun b hb => ?_, tabs_upd m.tab fun u e => ?_⟩, g⟩
  · obtain ⟨vs, e, hd⟩ := m.cell k a xs h1 h2
    refine ⟨vs, ?_, dqAll_mono g _ _ hd⟩
    have na : a ≠ D := fun z => m.out D hD (by rw [← z]; exact List.mem_iff_getElem?.mpr ⟨k, h1⟩)
    rw [upd_ne na]
    exact e
  · by_cases hb' : b = D
    · rw [hb']
      exact ⟨o, upd_same, po⟩
    · obtain ⟨u, e, pu⟩ := m.ext b hb
      exact ⟨u, by rw [upd_ne hb']; exact e, pu⟩
  · obtain ⟨u', e', pu⟩ := m.ext D hD
    rw [e] at e'
    cases e'
    exact pu
theorem SD.put {eo : Expr} (hu : X.A.units + 1 < cLine) (ho : EV X eo ρ μ (.raw (.ref D)) μ) (hk : EV X ek ρ μ (Ss s) μ) (hv : EV X ev ρ μ (.dat d) μ) (hl : kv.length ≤ 1000) (hr : SD X D rest ρ μ (putD kv s d) P R)
    (hs : swapsWith ev (some (.Subscript eo ek p')) pos.line X.env = pure false := by rfl) : SD X D (.Assign [.Subscript eo ek p'] ev pos :: rest) ρ μ kv P R := by
  intro w σ H Ee hD m sl hkv q q2
  refine ⟨_, pss_cons (ps_dput hu (p_ex (e := eo)) (p_ex (e := ek)) (p_ex (e := ev)) hs) p_sx, ?_⟩
  refine hv w σ H m sl _ fun v H1 m1 f1 h1 => ?_
  refine ho w σ H1 m1 (sl.fr f1) _ fun u H2 m2 f2 h2 => ?_
  obtain rfl : u = V.ref D := h2
  refine hk w σ H2 m2 ((sl.fr f1).fr f2) _ fun y H3 m3 f3 h3 => ?_
  cases h3
  have f13 := (f1.trans f2).trans f3
  obtain ⟨kvs, e, hn, hd⟩ := hkv.fr m hD f13
  have hlen : kvs.length ≤ 1000 := by
    have : (kvs.map (·.1)).length = (kvE kv).length := by rw [hn]
    simp [kvE] at this
    omega
  obtain ⟨m4, g4⟩ := Mem.outD (D := D) (o := .dK (putK kvs (.inr s) v)) m3 hD ⟨(fun q z => by cases z), (fun q z => by cases z)⟩
  refine ⟨D, _, rfl, DPut.k (k := (.inr s : Key)) e (small1000 hlen), ?_⟩
  have ff : Fr (D :: w.α) H (upd H3 D (.dK (putK kvs (.inr s) v))) := Fr.trans (f13.wide fun b hb => List.mem_cons_of_mem _ hb) fun b o e n nt => by
    rw [upd_ne (show b ≠ D from fun z => n (by rw [z]; exact List.mem_cons_self))]
    exact e
  exact hr w σ _ Ee hD m4 ((((sl.fr f1).fr f2).fr f3).same g4) (KvH.put (K := X.K) (μ := μ) e hn hd hD ((h1.fr f2).fr f3)) (fun ρ' kv' σ' H' z m' s' k' f' => q ρ' kv' σ' H' z m' s' k' (ff.trans f')) fun kv' H' z m' k' f' => q2 kv' H' z m' k' (ff.trans f')
theorem SD.for_ {is : List Nat} (hi : IV X tg iter ρ μ ds μ) (Iv : Nat → REnv → KD → Prop) (h0 : Iv 0 ρ kv)
    (hs : ∀ (i : Nat) (d : PyData) (ρ : REnv) (kv : KD), ds[i]? = some d → Iv i ρ kv → ∃ ρ', GV X tg d ρ ρ' is ∧ SD X D body ρ' μ kv (Iv (i + 1)) fun _ => False)
    (hd : ∀ ρ kv, Iv ds.length ρ kv → SD X D rest ρ μ kv P R) (hc : X.calm = true := by rfl) (hp : PassesOwn (model X.prog X.w) X.A X.env X.xe := by exact PassesOwn.never) (hst : ∀ x, foldedSetIterable iter X.env x = pure x := by intro _; rfl) : SD X D (.For tg iter body [] pos :: rest) ρ μ kv P R := by
  intro w σ H Ee hD m sl hk q q2
  refine ⟨_, pss_cons (ps_for hp hc (p_ix (tg := tg) (e := iter)) (p_gx (e := tg)) (p_sx (e := body)) hst) (p_sx (e := rest)), ?_⟩
  refine hi w σ H m sl _ fun J H1 m1 f1 wk => ?_
  refine ⟨fun i k σ' H' => k = ds.length - i ∧ i ≤ ds.length ∧ ∃ ρ' kv', Iv i ρ' kv' ∧ Mem X.K H' w μ ∧ Sl X.K H' w σ' ρ' ∧ KvH H' w D kv' ∧ Fr (D :: w.α) H1 H',
    ⟨ds.length, by simp, Nat.zero_le _, ρ, kv, h0, m1, sl.fr f1, hk.fr m hD f1, .refl⟩, ?_⟩
  rintro i k σ' H' ⟨rfl, hi', ρ', kv', iv, m2, s2, k2, f2⟩
  have sub : ∀ b ∈ D :: w.α, b ∈ w.all := fun b hb => by
    rcases List.mem_cons.mp hb with rfl | hb
    · exact List.mem_append_right _ hD
    · exact List.mem_append_left _ hb
  have gT : Same (dl H1 w.all) (dl H' w.all) := f2.sameDl sub
  have g : Same (dl H1 w.all) H' := gT.trans dl_same
  by_cases hlt : i < ds.length
  · obtain ⟨d, hdi⟩ : ∃ d, ds[i]? = some d := ⟨ds[i], by simp [hlt]⟩
    obtain ⟨go, yl⟩ := wk.go H' g i d hdi
    refine .inr ⟨go, fun σ3 H3 => ∃ ρ' kv', Iv (i + 1) ρ' kv' ∧ Mem X.K H3 w μ ∧ Sl X.K H3 w σ3 ρ' ∧ KvH H3 w D kv' ∧ Fr (D :: w.α) H1 H3, fun σ3 H3 h => ⟨ds.length - (i + 1), by omega, rfl, hlt, h⟩, fun x H3 y3 => ?_⟩
    obtain ⟨s23, dx⟩ := yl x H3 y3
    have dx3 : Dq (dl H3 w.all) x d := dx _ gT fun b hb' => by
      rcases List.mem_append.mp hb' with z | z
      · obtain ⟨vs, e⟩ := m2.there z
        exact ⟨_, e⟩
      · exact m2.ex1 z
    have f23 : Fr w.α H' H3 := Fr.of_same s23
    obtain ⟨ρ3, hg, hbody⟩ := hs i d ρ' kv' hdi iv
    refine hg w σ' H3 μ x (m2.same s23) (s2.fr f23) dx3 _ fun σ4 s4 _ => ?_
    have nxt : ∀ ρ5 kv5 σ5 H5, Iv (i + 1) ρ5 kv5 → Mem X.K H5 w μ → Sl X.K H5 w σ5 ρ5 → KvH H5 w D kv5 → Fr (D :: w.α) H3 H5 → ∃ ρ' kv', Iv (i + 1) ρ' kv' ∧ Mem X.K H5 w μ ∧ Sl X.K H5 w σ5 ρ' ∧ KvH H5 w D kv' ∧ Fr (D :: w.α) H1 H5 := fun ρ5 kv5 σ5 H5 iv5 m5 s5 k5 f5 => ⟨ρ5, kv5, iv5, m5, s5, k5, (f2.trans (Fr.of_same s23)).trans f5⟩
    exact hbody w σ4 H3 _ hD (m2.same s23) s4 (k2.fr m2 hD f23) nxt fun _ _ z => z.elim
  · have ei : i = ds.length := by omega
    subst ei
    refine .inl ⟨wk.stop H' g, ?_⟩
    exact hd ρ' kv' iv w σ' H' Ee hD m2 s2 k2 (fun ρ5 kv5 σ5 H5 z m5 s5 k5 f5 => q ρ5 kv5 σ5 H5 z m5 s5 k5 (((f1.wide fun b hb => List.mem_cons_of_mem _ hb).trans f2).trans f5)) fun kv5 H5 z m5 k5 f5 => q2 kv5 H5 z m5 k5 (((f1.wide fun b hb => List.mem_cons_of_mem _ hb).trans f2).trans f5)
end
end J
/-! J34: calls without arguments; a value and a new list at once. -/
namespace J
open PySem PySem.Spec
open PyProof.Rows L2
section
variable {X : Cx} {W : WX} {n : Nat} {ρ : REnv} {μ μ1 μ2 : Sto} {P : Out → Prop} {a b : Expr} {rest : List Stmt} {pos p : Pos} {nn : Str} {r r1 : Ent} {ys : List PyData}
theorem EV.call0 {k : Nat} {C : Con} (F : Cal X.prog X.w X.K X.mg X.base nn k [] C) (hr : Room k X.A) (hC : C [] μ r μ1) (hg : Gl X nn := by rfl) (hdb : (nn == ("__debug__" : Str)) = false := by decide) : EV X (.Call (.Name nn p) [] [] pos) ρ μ r μ1 := by
  intro w σ H m s Q q
  obtain ⟨f, fd, G, hm, hk, hb⟩ := F.ex
  refine ⟨_, pe_call0 (E := E0) G hr hg hm hk hb .nil pass0 hdb, ?_⟩
  exact ⟨w, μ, [], r, μ1, m, .nil, rfl, hC, fun v H' m2 f2 h2 => q v H' m2 f2 h2⟩
theorem ST.parC {i j : Nat} {x y : Str} {px py pt : Pos} {kt k2 pt2} (ha : EV X a ρ μ r1 μ1) (hb : EVF X b ρ μ1 ys μ2) (hN : X.N.Nodup) (hi : X.N[i]? = some x) (hj : X.N[j]? = some y) (hij : i ≠ j)
    (hx : X.env.scope.names.lookup x = some .local) (hy : X.env.scope.names.lookup y = some .local) (hr : ST X W n rest ((ρ.set i (some r1)).set j (some (.ptr μ2.length))) (μ2 ++ [ys]) P)
    (hw : swappedStores [.Tuple [.Name x px, .Name y py] kt pt] (.Tuple [a, b] k2 pt2) X.env = pure (some [x, y])) (hc : X.calm = true := by rfl)
    (hs : swapsWithSole [.Tuple [.Name x px, .Name y py] kt pt] (.Tuple [a, b] k2 pt2) pos.line X.env = pure false := by rfl) (he : starEach [a, b] X.env = (false, eval a X.env) :: starEach [b] X.env := by rfl) (he2 : starEach [b] X.env = (false, eval b X.env) :: starEach [] X.env := by rfl) : ST X W n (.Assign [.Tuple [.Name x px, .Name y py] kt pt] (.Tuple [a, b] k2 pt2) pos :: rest) ρ μ P := by
  intro w σ H D hn m s q
  refine ⟨_, pss_cons (ps_par hc hN hi hj hij hx hy (pa_cons (p_ex (e := a)) (pa_cons (p_ex (e := b)) pa_nil he2) he) hw hs) p_sx, ?_⟩
  refine ha w σ H m s _ fun v H1 m1 f1 h1 => ?_
  refine hb w σ H1 m1 (s.fr f1) _ fun c H2 vs m2 f2 hp e2 hd2 => ?_
  obtain ⟨mm, ss⟩ := new_cell (i := j) m1 ((s.fr f1).set (i := i) h1) m2 f2 hp e2 hd2
  have np : c ∉ w.α := fun z => m1.freshN hp (List.mem_append_left _ z)
  exact ⟨_, _, rfl, hr (w.add [c]) _ H2 D (by simp; omega) mm ss fun o ho => Fin.grow (q o ho) hn (f1.trans f2) fun b hb => by
    rw [List.mem_singleton] at hb
    subst hb
    exact Nw.back f1 hp np⟩
end
end J
/-! J35: lists repeated; defs that make lambdas and change what they were given; f(a new list, a value). -/
namespace J
open PySem PySem.Spec
open PyProof.Rows L2
theorem dqAll_rep {H : Hp} {vs : List V} {ds : List PyData} (h : DqAll H vs ds) : ∀ n : Nat, DqAll H (List.replicate n vs).flatten (List.replicate n ds).flatten
  | 0 => .nil
  | n + 1 => by
    rw [List.replicate_succ, List.replicate_succ, List.flatten_cons, List.flatten_cons]
    exact dqAll_append h (dqAll_rep h n)
section
variable {K : PySem.W.Frag} {μ : Sto} {ds : List PyData}
theorem r2_rep {n : Nat} (h1 : n ≤ 1000) (h2 : ds.length ≤ 1000) : R2V K rRep (Ls ds) (Ii (n : Int)) (Ls (List.replicate n ds).flatten) μ := fun w H v u m a b Q q => by
  cases a with
  | lst ha hd =>
    cases b
    have hz : n * ds.length ≤ 1000 * 1000 := Nat.mul_le_mul h1 h2
    refine ⟨_, (n : Int), _, rfl, rfl, (dl_some ha).2, by omega, by omega, ?_, ?_⟩
    · rw [dqAll_len hd, Int.toNat_natCast, Nat.mul_comm]
      exact sz hz
    · rw [Int.toNat_natCast]
      exact new_lst m (dqAll_rep hd n) q
end
section
variable {X : Cx} {ρ : REnv} {μ μ1 μ2 : Sto} {a b e e2 : Expr} {pos p : Pos} {xs ds : List PyData} {n : Str} {k : Nat} {d : PyData}
theorem oRep {m : Nat} (ha : EV X a ρ μ (Ls ds) μ1) (hb : EV X b ρ μ1 (Ii (m : Int)) μ2) (h1 : m ≤ 1000) (h2 : ds.length ≤ 1000) : EV X (.BinOp a .Mult b pos) ρ μ (Ls (List.replicate m ds).flatten) μ2 := ha.op op_rep hb (r2_rep h1 h2)
/-- f(a new list, a value) -/
theorem EV.callNewP2 {C : ConP} {b : Bool} {x1 x2 : Str} {Φ : Ent → Sto → Prop} (F : CalGP X.prog X.w X.K X.mg X.base n k [x1, x2] C) (hgd : X.A.guards = some []) (hr : Room k X.A) (ha : EVF X e ρ μ xs μ1) (hb2 : EV X e2 ρ μ1 (.dat d) μ1) (hC : C [.ptr μ1.length, .dat d] (μ1 ++ [xs]) Φ) (hΦ : ∀ r μ', Φ r μ' → r = Bb b ∧ ∃ ys, μ' = μ1 ++ [ys])
    (hg : Gl X n := by rfl) (hdb : (n == ("__debug__" : Str)) = false := by decide) (he : starEach [e, e2] X.env = (false, eval e X.env) :: starEach [e2] X.env := by rfl) (he2 : starEach [e2] X.env = (false, eval e2 X.env) :: starEach [] X.env := by rfl) (hpl : (backTo pos (starEach [e2] X.env)).any (·.1) = false := by rfl) :
    EV X (.Call (.Name n p) [e, e2] [] pos) ρ μ (Bb b) μ1 := by
  intro w σ H m s Q q
  obtain ⟨f, fd, G, hm, hk, hb⟩ := F.ex
  refine ⟨tCall (SpP X.K [x1, x2] C) [] E0 (tCons (EX X e) (tCons (EX X e2) tNil)), ⟨fun pins s0 σ0 H0 Q0 I h => ?_⟩, ?_⟩
  · refine wpAny_Call_Name_kw (ld_glob I hg hm ?_ hdb)
    refine PySem.W.callWith_K (h₀ := X.base) I.ok.mod.kin hk (thn ((pa_cons (p_ex (e := e)) (pa_cons (p_ex (e := e2)) pa_nil he2) he).run pos pins s0 σ0 H0 _ I h) fun us s1 ⟨vs, H1, I1, r, z⟩ => ⟨I1.kIn, ?_⟩) he hpl
    have z' : SpP X.K [x1, x2] C (vs ++ []) H1 Q0 E0 := z
    rw [List.append_nil] at z'
    exact runG G hgd hr hb I1 r z'
  · refine ha w σ H m s _ fun p0 H1 us m1 f1 hp e1 hd => ?_
    have g1 : Same (dl H w.all) (dl H1 (wk' w p0).all) := keep_outN (K := X.K) hp f1 ⟨_, e1⟩
    refine hb2 (wk' w p0) σ H1 m1 (s.same2 g1) _ fun v2 H2 m2 f2 h2 => ?_
    have hx : p0 ∉ w.ξ := fun z => m.freshN hp (List.mem_append_right _ z)
    have ha0 : p0 ∉ w.α := fun z => m.freshN hp (List.mem_append_left _ z)
    have e1' : H2 p0 = some (.lst us) := f2 p0 _ e1 ha0 (fun q z => by cases z)
    have hd' := dqAll_mono (Fr.all (w := wk' w p0) f2) _ _ hd
    have hl1 : w.α.length = μ1.length := m2.len
    have hw : (w.add [p0]).cut w.α.length = w := by
      rw [take_add (Nat.le_refl _)]
      show (⟨w.α.take w.α.length, w.ξ⟩ : Wd) = w
      rw [List.take_length]
    have sub : ∀ b ∈ (w.add [p0]).all, b ∈ (wk' w p0).all := fun b hb => all_wk'.mpr (by
      rcases List.mem_append.mp hb with z | z
      · rcases List.mem_append.mp z with z | z
        · exact .inr (List.mem_append_left _ z)
        · exact .inl (by simpa using z)
      · exact .inr (List.mem_append_right _ z))
    have h2' : Val X.K H2 (w.add [p0]) v2 (.dat d) := dq_mono (dl_sub sub) _ _ h2
    refine ⟨w.add [p0], μ1 ++ [xs], [.ptr μ1.length, .dat d], Φ, m2.adopt hx e1' hd', .cons ⟨p0, ?_, rfl⟩ (.cons h2' .nil), rfl, hC, fun r μ' v H3 hr2 m3 f3 h3 => ?_⟩
    · rw [List.getElem?_append_right (by omega), hl1]
      simp
    · obtain ⟨rfl, ys, rfl⟩ := hΦ r μ' hr2
      have mm := m3.cut w.α.length
      rw [hw, hl1, List.take_left] at mm
      cases h3
      refine q _ H3 mm (fun c o hc hn nt => f3 c o (f2 c o (f1 c o hc hn nt) hn nt) (fun z => ?_) nt) (Dq.bl b)
      rcases List.mem_append.mp z with z | z
      · exact hn z
      · have : c = p0 := by simpa using z
        exact hp o (this ▸ hc) nt
end
section
variable {w : World} {P : Program} {K : PySem.W.Frag} {base : Heap} {mg : Str → Option Value}
theorem Df.calGPL {x : Str} {st : Stmt} {N ps : List Str} {k : Nat} {C : ConP} (D : Df K mg x st) (inB : K.In base) (nsB : base.Ns mainGlobals mg) (B : LamB K mg base x) (Sc : FnScope N ps (defScope st))
    (hb : ∀ (kV doc pm : Value) (an : Option Addr) (cdv ct : Value) (us : List Value), us.length = ps.length → bindArgs (PySem.W.fnOf x x (defArgs st) (defBody st) (defScope st) .none kV doc pm an cdv ct) ⟨us, []⟩ = pure (ps.zip us))
    (hN : ps.length ≤ N.length)
    (body : ∀ (f : Addr) (cdv : Value) (A : Around) (outer : List Env) (s : Shared) (H : Hp) (E : XK), LamD K mg base x cdv → A.guards = some [] → Room k (A.deeper (envOfC x (defScope st) s.heap.objs.size f cdv)) → ∀ rs μ Φ, C rs μ Φ →
      ST (cxOf CX0 P w K mg base N x (defScope st) f cdv A outer s H E).nox W0 μ.length (defBody st) (rs.map some ++ List.replicate (N.length - rs.length) none) μ (PostP Φ)) : CalGP P w K mg base x (k + 1) ps C := by
  obtain ⟨f, fd, F, hm⟩ := D.ex
  refine ⟨f, fd, funGL F hm inB nsB B Sc (fun xs G R E h => ?_) (fun cdv B o t G xs R E hL hgd room h => ?_), hm, F.kp, F.binds hb⟩
  · obtain ⟨w0, μ, rs, Φ, _, hv, hl, _⟩ := h
    exact hv.1.trans hl
  · obtain ⟨w0, μ, rs, Φ, m, hv, hl, hC, q⟩ := h
    have hw : w0.cut μ.length = w0 := by
      show (⟨w0.α.take μ.length, w0.ξ⟩ : Wd) = w0
      rw [← m.len, List.take_length]
    refine body f cdv B o t G E hL hgd room rs μ Φ hC w0 _ G _ (Nat.le_of_eq m.len.symm) m (sl_start hv (by omega)) fun oo ho => ?_
    match oo, ho with
    | .ret r2 μ2, ho =>
      intro v G' m' f' hv'
      rw [hw] at m' hv'
      exact q r2 μ2 v G' ho m' f' hv'
end
end J
/-! JL: what the laws' texts share. -/
namespace J
open PySem PySem.Spec
open PyProof.Rows L2
theorem ap_set {μ : Sto} {k : Nat} {x : List PyData} {rest : Sto} (h : k < μ.length) : (μ ++ rest).set k x = μ.set k x ++ rest := by rw [List.set_append_left _ _ h]
theorem ap_get {μ : Sto} {k : Nat} {rest : Sto} (h : k < μ.length) : (μ ++ rest)[k]? = μ[k]? := List.getElem?_append_left h
theorem at_last {μ : Sto} {x : List PyData} {rest : Sto} : (μ ++ x :: rest)[μ.length]? = some x := by simp
theorem set_last {μ : Sto} {x y : List PyData} {rest : Sto} : (μ ++ x :: rest).set μ.length y = μ ++ y :: rest := by simp
theorem EV.st {X : Cx} {ρ : REnv} {μ μ1 μ' : Sto} {e : Expr} {r : Ent} (h : EV X e ρ μ r μ1) (q : μ1 = μ') : EV X e ρ μ r μ' := q ▸ h
theorem seqI {j n : Nat} (h : j < n) : seqIndex? (j : Int) n = some j := by
  have h0 : ¬ ((j : Int) < 0) := by omega
  have h1 : (0 : Int) ≤ (j : Int) := by omega
  have h2 : ((j : Int) < (n : Int)) := by omega
  unfold seqIndex?
  simp [h0, h1, h2]
  try omega
/-- no test; over typed items -/
theorem LCV.mapT {X : Cx} {ρ : REnv} {μ μ1 : Sto} {tg iter elt : Expr} {scope : Scope} {own : List (Str × Nat)} {α : Type} {bs : List α} (h : α → PyData) (g : α → PyData) (hi : IV X tg iter ρ μ (bs.map h) μ1)
    (hs : ∀ b ∈ bs, ∃ ρ', (∀ s H C cl fp, GV (blkX X scope s H C cl fp) tg (h b) (wipeE ρ (own.map (·.2))) ρ' (own.map (·.2))) ∧ (∀ s H C cl fp, EV (blkX X scope s H C cl fp) elt ρ' μ1 (.dat (g b)) μ1)) (hl : bs.length ≤ 100000) : LCV X elt tg iter [] scope own ρ μ (bs.map g) μ1 := by
  refine LCV.mk hi (fun i acc ν => acc = (bs.take i).map g ∧ ν = μ1) ⟨by simp, rfl⟩ (fun i d acc ν e hI => ?_) (fun acc ν hI => ?_) (by simpa using hl)
  · obtain ⟨rfl, rfl⟩ := hI
    rw [List.getElem?_map] at e
    cases q : bs[i]? with
    | none => rw [q] at e; cases e
    | some b =>
      rw [q] at e
      cases e
      obtain ⟨ρ', a1, a2⟩ := hs b (List.mem_iff_getElem?.mpr ⟨i, q⟩)
      refine ⟨ρ', a1, true, _, .inl ⟨rfl, rfl, rfl⟩, iteT ⟨_, _, a2, ?_, rfl⟩⟩
      rw [List.take_succ, q]
      simp
  · rw [List.length_map, List.take_length] at hI
    exact hI
theorem IV.eqD {X : Cx} {tg e : Expr} {ρ : REnv} {μ μ1 : Sto} {ds es : List PyData} (h : IV X tg e ρ μ ds μ1) (q : ds = es) : IV X tg e ρ μ es μ1 := q ▸ h
end J
/-! J74: return e, with the lists of its own from k on looked at as data. -/
namespace J
open PySem PySem.Spec
open PyProof.Rows L2
def frzE (k : Nat) (μ : Sto) (ρ : REnv) : REnv := ρ.map (Option.map (frz k μ))
theorem sl_frz {K : PySem.W.Frag} {H : Hp} {w : Wd} {μ : Sto} {σ : L2.St} {ρ : REnv} (m : Mem K H w μ) (s : Sl K H w σ ρ) (k : Nat) : Sl K H (w.cut k) σ (frzE k μ ρ) := by
  refine ⟨by rw [s.len]; unfold frzE; rw [List.length_map], fun i r h => ?_⟩
  unfold frzE at h
  rw [List.getElem?_map] at h
  cases e : ρ[i]? with
  | none => rw [e] at h; cases h
  | some q =>
    rw [e] at h
    cases q with
    | none => cases h
    | some r0 =>
      cases h
      obtain ⟨v, hv, h2⟩ := s.at_ i r0 e
      exact ⟨v, hv, val_frz m h2⟩
theorem cut_cut {w : Wd} {n k : Nat} (h : n ≤ k) : (w.cut k).cut n = w.cut n := by
  show (⟨(w.α.take k).take n, w.ξ⟩ : Wd) = ⟨w.α.take n, w.ξ⟩
  rw [List.take_take, Nat.min_eq_left h]
section
variable {X : Cx} {W : WX} {n : Nat} {ρ ρ' : REnv} {μ ν ν2 : Sto} {P : Out → Prop} {e : Expr} {rest : List Stmt} {pos : Pos} {r : Ent}
theorem ST.retZ (k : Nat) (hk : n ≤ k) (e1 : frzE k μ ρ = ρ') (e2 : μ.take k = ν) (h : EV X e ρ' ν r ν2) (hP : P (.ret (frz n ν2 r) (ν2.take n))) : ST X W n (.Return (some e) pos :: rest) ρ μ P := by
  subst e1 e2
  intro w σ H D hn m s q
  refine ⟨_, pss_cons (ps_ret (p_ex (e := e))) pss_never, ?_⟩
  refine h (w.cut k) σ H (m.cut k) (sl_frz m s k) _ fun v H1 m1 f1 hv => ?_
  have m2 := m1.cut n
  have v2 := val_frz (n := n) m1 hv
  rw [cut_cut hk] at m2 v2
  exact q _ hP v H1 m2 (fun b o eb nb nt => f1 b o eb (fun z => nb (List.mem_of_mem_take z)) nt) v2
end
end J
/-! W01: what k01 asks of the errors. -/
namespace J
open PySem PySem.Spec
open PyProof.Rows L2
def erN : List Str := ["InvalidText", "InvalidCount", "InvalidPlace", "InvalidClaim", "NotABook", "InvalidPlans", "InvalidPieces", "UnknownPlan", "TooLong", "IsOver", "NothingToUndo", "Broken"]
def baN : List Str := ["NotRight", "NotThere", "CannotBe", "ValueError", "LookupError", "ArithmeticError", "KeyError", "IndexError", "ZeroDivisionError"]
def fldN (k : Nat) : Str := ([("given" : Str), "given", "given", "given", "given", "index", "index", "given", "most"]).getD k "given"
def sort3 (n j : Nat) : Bool := if n < 7 then j == 0 else if n == 7 then j == 1 else j == 2
def sort9 (n j : Nat) : Bool := if j < 6 then sort3 n (j % 3) else false
structure Er12 (P : Program) (w : World) (K : PySem.W.Frag) (mg : Str → Option Value) (base : Heap) (A : Nat → Addr) : Prop where
  v : ∀ k, k < 9 → ExcV P w K mg base (erN.getD k Str.empty) (A k) (fldN k)
  z9 : Exc0 K mg "IsOver" (A 9)
  z10 : Exc0 K mg "NothingToUndo" (A 10)
  b : ExcB P w K mg base "Broken" (A 11)
  c : ∀ k, k < 12 → ExcC K (A k)
  xf : ∀ k, k < 12 → XfC K (A k)
  no : ∀ k, k < 9 → PySem.W.findIn K (.ref (A k)) (fldN k) = some none
  noI : PySem.W.findIn K (.ref (A 11)) (Str.ofString "index") = some none
  noS : PySem.W.findIn K (.ref (A 11)) (Str.ofString "shown") = some none
  ns : ∀ j, j < 12 → ClsAt mg (erN.getD j Str.empty) (.ref (A j)) ∧ ∀ n, n < 12 → PySem.W.kitOne K (.ref (A n)) (.ref (A j)) = some (j == n)
  bs : ∀ j, j < 9 → ∃ cv, ClsAt mg (baN.getD j Str.empty) cv ∧ ∀ n, n < 12 → PySem.W.kitOne K (.ref (A n)) cv = some (sort9 n j)
  /-- the classes that catch: NotRight, NotThere, CannotBe -/
  cat : ∃ B0 B1 B2, mg "NotRight" = some (.ref B0) ∧ mg "NotThere" = some (.ref B1) ∧ mg "CannotBe" = some (.ref B2) ∧ PySem.W.exmOne K (.ref (A 0)) (.ref B0) = some true ∧ PySem.W.exmOne K (.ref (A 7)) (.ref B1) = some true ∧ PySem.W.exmOne K (.ref (A 11)) (.ref B2) = some true
def errAt (A : Nat → Addr) (d : PyData) (k : Nat) : PyData := if k = 9 ∨ k = 10 then ex0D (A k) else if k = 11 then exD (A 11) [(Str.ofString "shown", .int 7), (Str.ofString "index", d)] else exD (A k) [(fldN k, d)]
theorem errAt_er (A : Nat → Addr) (d : PyData) (k : Nat) : ErD (A k) (errAt A d k) := by
  unfold errAt
  by_cases h : k = 9 ∨ k = 10
  · rw [if_pos h]; exact .inr rfl
  · rw [if_neg h]
    by_cases h2 : k = 11
    · rw [if_pos h2]; subst h2; exact .inl ⟨_, rfl⟩
    · rw [if_neg h2]; exact .inl ⟨_, rfl⟩
def errs (A : Nat → Addr) (d : PyData) : List PyData := (List.range 12).map (errAt A d)
theorem errs_at (A : Nat → Addr) (d : PyData) {k : Nat} (h : k < 12) : (errs A d)[k]? = some (errAt A d k) := by
  unfold errs
  rw [List.getElem?_map, List.getElem?_range h]
  rfl
theorem errs_len (A : Nat → Addr) (d : PyData) : (errs A d).length = 12 := by
  unfold errs
  rw [List.length_map, List.length_range]
def soL (n : Nat) : List PyData := (List.range 12).map fun j => .bool (j == n)
def baL (n : Nat) : List PyData := (List.range 9).map fun j => .bool (sort9 n j)
section
variable {w : World} {P : Program} {K : PySem.W.Frag} {base : Heap} {mg : Str → Option Value} {A : Nat → Addr}
theorem s1000 {m n : Nat} (h : m + n ≤ 1000) : m + n ≤ sizeLine := sz (by omega)
abbrev nSo : List Str := ["_law_e", "_law_found"]
theorem scSo : FnScope nSo ["_law_e"] (defScope sLSorts) := ⟨rfl, rfl, rfl, by decide +kernel, rfl, by decide +kernel, by decide +kernel⟩
def cnSo (A : Nat → Addr) : Con := fun rs μ r μ' => ∃ (x : PyData) (n : Nat), rs = [.dat x] ∧ (n < 12 ∧ ErD (A n) x) ∧ r = Ls (soL n) ∧ μ' = μ
theorem cSo (T : Bt mg) (E12 : Er12 P w K mg base A) (D : Df K mg "_law_sorts" sLSorts) : Cal P w K mg base "_law_sorts" 1 ["_law_e"] (cnSo A) := by
  refine D.cal scSo (fun _ _ _ _ _ _ us hl => match us, hl with | [_], _ => rfl) (by decide) (fun rs μ r μ' h => by obtain ⟨_, _, _, _, _, rfl⟩ := h; rfl) fun f cdv A' outer s H E hr rs μ r μ' hC => ?_
  obtain ⟨x, n, rfl, ⟨hn, hx⟩, rfl, rfl⟩ := hC
  have M := E12.c n hn
  refine ST.set (i := 1) (r := Ls [.bool (0 == n), .bool (1 == n), .bool (2 == n)]) (EV.lst (ds := [.bool (0 == n), .bool (1 == n), .bool (2 == n)]) (AV.cons (EV.isX M hx T.isinstance (E12.ns 0 (by decide)).1 ((E12.ns 0 (by decide)).2 n hn) (nm 0)) (AV.cons (EV.isX M hx T.isinstance (E12.ns 1 (by decide)).1 ((E12.ns 1 (by decide)).2 n hn) (nm 0)) (AV.cons (EV.isX M hx T.isinstance (E12.ns 2 (by decide)).1 ((E12.ns 2 (by decide)).2 n hn) (nm 0)) AV.nil)))) scSo.nd rfl (Or.inl rfl) ?_
  refine ST.set (i := 1) (oCat (nm 1) (EV.lst (ds := [.bool (3 == n), .bool (4 == n), .bool (5 == n)]) (AV.cons (EV.isX M hx T.isinstance (E12.ns 3 (by decide)).1 ((E12.ns 3 (by decide)).2 n hn) (nm 0)) (AV.cons (EV.isX M hx T.isinstance (E12.ns 4 (by decide)).1 ((E12.ns 4 (by decide)).2 n hn) (nm 0)) (AV.cons (EV.isX M hx T.isinstance (E12.ns 5 (by decide)).1 ((E12.ns 5 (by decide)).2 n hn) (nm 0)) AV.nil)))) (s1000 (by simp))) scSo.nd rfl (Or.inl rfl) ?_
  refine ST.set (i := 1) (oCat (nm 1) (EV.lst (ds := [.bool (6 == n), .bool (7 == n), .bool (8 == n)]) (AV.cons (EV.isX M hx T.isinstance (E12.ns 6 (by decide)).1 ((E12.ns 6 (by decide)).2 n hn) (nm 0)) (AV.cons (EV.isX M hx T.isinstance (E12.ns 7 (by decide)).1 ((E12.ns 7 (by decide)).2 n hn) (nm 0)) (AV.cons (EV.isX M hx T.isinstance (E12.ns 8 (by decide)).1 ((E12.ns 8 (by decide)).2 n hn) (nm 0)) AV.nil)))) (s1000 (by simp))) scSo.nd rfl (Or.inl rfl) ?_
  refine ST.set (i := 1) (oCat (nm 1) (EV.lst (ds := [.bool (9 == n), .bool (10 == n), .bool (11 == n)]) (AV.cons (EV.isX M hx T.isinstance (E12.ns 9 (by decide)).1 ((E12.ns 9 (by decide)).2 n hn) (nm 0)) (AV.cons (EV.isX M hx T.isinstance (E12.ns 10 (by decide)).1 ((E12.ns 10 (by decide)).2 n hn) (nm 0)) (AV.cons (EV.isX M hx T.isinstance (E12.ns 11 (by decide)).1 ((E12.ns 11 (by decide)).2 n hn) (nm 0)) AV.nil)))) (s1000 (by simp))) scSo.nd rfl (Or.inl rfl) ?_
  exact ST.retP (nm 1) rfl
abbrev nBa : List Str := ["_law_e", "_law_found"]
theorem scBa : FnScope nBa ["_law_e"] (defScope sLBases) := ⟨rfl, rfl, rfl, by decide +kernel, rfl, by decide +kernel, by decide +kernel⟩
def cnBa (A : Nat → Addr) : Con := fun rs μ r μ' => ∃ (x : PyData) (n : Nat), rs = [.dat x] ∧ (n < 12 ∧ ErD (A n) x) ∧ r = Ls (baL n) ∧ μ' = μ
theorem cBa (T : Bt mg) (E12 : Er12 P w K mg base A) (D : Df K mg "_law_bases" sLBases) : Cal P w K mg base "_law_bases" 1 ["_law_e"] (cnBa A) := by
  refine D.cal scBa (fun _ _ _ _ _ _ us hl => match us, hl with | [_], _ => rfl) (by decide) (fun rs μ r μ' h => by obtain ⟨_, _, _, _, _, rfl⟩ := h; rfl) fun f cdv A' outer s H E hr rs μ r μ' hC => ?_
  obtain ⟨x, n, rfl, ⟨hn, hx⟩, rfl, rfl⟩ := hC
  have M := E12.c n hn
  obtain ⟨c0, a0, b0⟩ := E12.bs 0 (by decide)
  obtain ⟨c1, a1, b1⟩ := E12.bs 1 (by decide)
  obtain ⟨c2, a2, b2⟩ := E12.bs 2 (by decide)
  obtain ⟨c3, a3, b3⟩ := E12.bs 3 (by decide)
  obtain ⟨c4, a4, b4⟩ := E12.bs 4 (by decide)
  obtain ⟨c5, a5, b5⟩ := E12.bs 5 (by decide)
  obtain ⟨c6, a6, b6⟩ := E12.bs 6 (by decide)
  obtain ⟨c7, a7, b7⟩ := E12.bs 7 (by decide)
  obtain ⟨c8, a8, b8⟩ := E12.bs 8 (by decide)
  refine ST.set (i := 1) (r := Ls [.bool (sort9 n 0), .bool (sort9 n 1), .bool (sort9 n 2)]) (EV.lst (ds := [.bool (sort9 n 0), .bool (sort9 n 1), .bool (sort9 n 2)]) (AV.cons (EV.isX M hx T.isinstance a0 (b0 n hn) (nm 0)) (AV.cons (EV.isX M hx T.isinstance a1 (b1 n hn) (nm 0)) (AV.cons (EV.isX M hx T.isinstance a2 (b2 n hn) (nm 0)) AV.nil)))) scBa.nd rfl (Or.inl rfl) ?_
  refine ST.set (i := 1) (oCat (nm 1) (EV.lst (ds := [.bool (sort9 n 3), .bool (sort9 n 4), .bool (sort9 n 5)]) (AV.cons (EV.isX M hx T.isinstance a3 (b3 n hn) (nm 0)) (AV.cons (EV.isX M hx T.isinstance a4 (b4 n hn) (nm 0)) (AV.cons (EV.isX M hx T.isinstance a5 (b5 n hn) (nm 0)) AV.nil)))) (s1000 (by simp))) scBa.nd rfl (Or.inl rfl) ?_
  exact ST.retP (oCat (nm 1) (EV.lst (ds := [.bool (sort9 n 6), .bool (sort9 n 7), .bool (sort9 n 8)]) (AV.cons (EV.isX M hx T.isinstance a6 (b6 n hn) (nm 0)) (AV.cons (EV.isX M hx T.isinstance a7 (b7 n hn) (nm 0)) (AV.cons (EV.isX M hx T.isinstance a8 (b8 n hn) (nm 0)) AV.nil)))) (s1000 (by simp))) rfl
abbrev nDu : List Str := ["_law_k", "_law_first", "_law_second", "_law_third"]
theorem scDu : FnScope nDu ["_law_k"] (defScope sLDue) := ⟨rfl, rfl, rfl, by decide +kernel, rfl, by decide +kernel, by decide +kernel⟩
def cnDu : Con := fun rs μ r μ' => ∃ n : Nat, rs = [Ii (n : Int)] ∧ n < 12 ∧ r = Ls (baL n) ∧ μ' = μ
theorem cDu (D : Df K mg "_law_due" sLDue) : Cal P w K mg base "_law_due" 1 ["_law_k"] cnDu := by
  refine D.cal scDu (fun _ _ _ _ _ _ us hl => match us, hl with | [_], _ => rfl) (by decide) (fun rs μ r μ' h => by obtain ⟨_, _, _, _, rfl⟩ := h; rfl) fun f cdv A' outer s H E hr rs μ r μ' hC => ?_
  obtain ⟨n, rfl, hn, rfl, rfl⟩ := hC
  have hb : ∀ n : _root_.Fin 12, decide (((n.val : Nat) : Int) < 7) = sort3 n.val 0 ∧ (decide ((6 : Int) < (n.val : Int)) && decide ((n.val : Int) < 8)) = sort3 n.val 1 ∧ ((!sort3 n.val 0) && (!sort3 n.val 1)) = sort3 n.val 2 := by decide
  obtain ⟨h0, h1, h2⟩ := hb ⟨n, hn⟩
  refine ST.par (i := 1) (j := 2) (r1 := Bb (sort3 n 0)) (r2 := Bb (sort3 n 1)) (AV.cons (EV.eq (cLt (nm 0) EV.int) (congrArg (fun z => Bb z) h0)) (AV.cons (EV.eq (chainLe op_lt op_lt EV.int (nm 0) EV.int) (congrArg (fun z => Bb z) h1)) AV.nil)) scDu.nd rfl rfl (by decide) rfl rfl ?_ rfl
  refine ST.set (i := 3) (r := Bb (sort3 n 2)) (EV.eq (EV.andD (EV.not (nm 1)) (fun _ => EV.one (EV.not (nm 2)))) (congrArg (fun z => Bb z) h2)) scDu.nd rfl (Or.inl rfl) ?_
  exact ST.retP (oCat (oRep (m := 2) (EV.lst (ds := [.bool (sort3 n 0), .bool (sort3 n 1), .bool (sort3 n 2)]) (AV.cons (nm 1) (AV.cons (nm 2) (AV.cons (nm 3) AV.nil)))) (EV.eq EV.int rfl) (by decide) (by simp)) (oRep (m := 3) (EV.lst (ds := [.bool false]) (AV.cons EV.bl AV.nil)) (EV.eq EV.int rfl) (by decide) (by simp)) (s1000 (by simp))) rfl
abbrev nGi : List Str := ["_law_thing", "_law_found", "_law_named"]
theorem scGi : FnScope nGi ["_law_thing"] (defScope sLGiven) := ⟨rfl, rfl, rfl, by decide +kernel, rfl, by decide +kernel, by decide +kernel⟩
def cnGi (A : Nat → Addr) : Con := fun rs μ r μ' => ∃ d : PyData, rs = [.dat d] ∧ r = Ls [.list (errs A d), .list (errs A d)] ∧ μ' = μ
theorem cGi (T : Bt mg) (E12 : Er12 P w K mg base A) (D : Df K mg "_law_given" sLGiven) : Cal P w K mg base "_law_given" 3 ["_law_thing"] (cnGi A) := by
  refine D.cal scGi (fun _ _ _ _ _ _ us hl => match us, hl with | [_], _ => rfl) (by decide) (fun rs μ r μ' h => by obtain ⟨_, _, _, rfl⟩ := h; rfl) fun f cdv A' outer s H E hr rs μ r μ' hC => ?_
  obtain ⟨d, rfl, rfl, rfl⟩ := hC
  have v0 : ExcV P w K mg base "InvalidText" (A 0) "given" := E12.v 0 (by decide)
  have v1 : ExcV P w K mg base "InvalidCount" (A 1) "given" := E12.v 1 (by decide)
  have v2 : ExcV P w K mg base "InvalidPlace" (A 2) "given" := E12.v 2 (by decide)
  have v3 : ExcV P w K mg base "InvalidClaim" (A 3) "given" := E12.v 3 (by decide)
  have v4 : ExcV P w K mg base "NotABook" (A 4) "given" := E12.v 4 (by decide)
  have v5 : ExcV P w K mg base "InvalidPlans" (A 5) "index" := E12.v 5 (by decide)
  have v6 : ExcV P w K mg base "InvalidPieces" (A 6) "index" := E12.v 6 (by decide)
  have v7 : ExcV P w K mg base "UnknownPlan" (A 7) "given" := E12.v 7 (by decide)
  have v8 : ExcV P w K mg base "TooLong" (A 8) "most" := E12.v 8 (by decide)
  refine ST.set (i := 1) (r := Ls [errAt A d 0, errAt A d 1, errAt A d 2, errAt A d 3]) (EV.lst (ds := [exD (A 0) [("given", d)], exD (A 1) [("given", d)], exD (A 2) [("given", d)], exD (A 3) [("given", d)]]) (AV.cons (EV.mkE v0 hr (nm 0)) (AV.cons (EV.mkE v1 hr (nm 0)) (AV.cons (EV.mkE v2 hr (nm 0)) (AV.cons (EV.mkE v3 hr (nm 0)) AV.nil))))) scGi.nd rfl (Or.inl rfl) ?_
  refine ST.set (i := 1) (oCat (nm 1) (EV.lst (ds := [exD (A 4) [("given", d)], exD (A 5) [("index", d)], exD (A 6) [("index", d)], exD (A 7) [("given", d)]]) (AV.cons (EV.mkE v4 hr (nm 0)) (AV.cons (EV.mkE v5 hr (nm 0)) (AV.cons (EV.mkE v6 hr (nm 0)) (AV.cons (EV.mkE v7 hr (nm 0)) AV.nil))))) (s1000 (by simp))) scGi.nd rfl (Or.inl rfl) ?_
  refine ST.set (i := 1) (oCat (nm 1) (EV.lst (ds := [exD (A 8) [("most", d)], ex0D (A 9), ex0D (A 10), exD (A 11) [(Str.ofString "shown", .int 7), (Str.ofString "index", d)]]) (AV.cons (EV.mkE v8 hr (nm 0)) (AV.cons (EV.mkE0 E12.z9) (AV.cons (EV.mkE0 E12.z10) (AV.cons (EV.mkB E12.b hr (nm 0) EV.int) AV.nil))))) (s1000 (by simp))) scGi.nd rfl (Or.inl rfl) ?_
  refine ST.set (i := 2) (r := Ls [errAt A d 0, errAt A d 1, errAt A d 2]) (EV.lst (ds := [exD (A 0) [("given", d)], exD (A 1) [("given", d)], exD (A 2) [("given", d)]]) (AV.cons (EV.mkEK v0 hr (nm 0)) (AV.cons (EV.mkEK v1 hr (nm 0)) (AV.cons (EV.mkEK v2 hr (nm 0)) AV.nil)))) scGi.nd rfl (Or.inl rfl) ?_
  refine ST.set (i := 2) (oCat (nm 2) (EV.lst (ds := [exD (A 3) [("given", d)], exD (A 4) [("given", d)], exD (A 5) [("index", d)]]) (AV.cons (EV.mkEK v3 hr (nm 0)) (AV.cons (EV.mkEK v4 hr (nm 0)) (AV.cons (EV.mkEK v5 hr (nm 0)) AV.nil)))) (s1000 (by simp))) scGi.nd rfl (Or.inl rfl) ?_
  refine ST.set (i := 2) (oCat (nm 2) (EV.lst (ds := [exD (A 6) [("index", d)], exD (A 7) [("given", d)], exD (A 8) [("most", d)], ex0D (A 9)]) (AV.cons (EV.mkEK v6 hr (nm 0)) (AV.cons (EV.mkEK v7 hr (nm 0)) (AV.cons (EV.mkEK v8 hr (nm 0)) (AV.cons (EV.mkE0 E12.z9) AV.nil))))) (s1000 (by simp))) scGi.nd rfl (Or.inl rfl) ?_
  refine ST.set (i := 2) (oCat (nm 2) (EV.lst (ds := [ex0D (A 10), exD (A 11) [(Str.ofString "shown", .int 7), (Str.ofString "index", d)]]) (AV.cons (EV.mkE0 E12.z10) (AV.cons (EV.mkBK E12.b hr EV.int (nm 0)) AV.nil))) (s1000 (by simp))) scGi.nd rfl (Or.inl rfl) ?_
  exact ST.retP (EV.lst (ds := [.list (errs A d), .list (errs A d)]) (AV.cons (nm 1) (AV.cons (nm 2) AV.nil))) rfl
end
end J
/-! NS: what repr shows is a text. -/
namespace N
open PySem J L2 PyProof.Rows
def OkS (s : Str) : Prop := ∀ c ∈ s.cps.toList, c < 0x110000
theorem okS_iff {s : Str} : OkS s ↔ PyData.strOk s = true := by
  unfold PyData.strOk OkS
  rw [← Array.all_toList, List.all_eq_true]
  exact ⟨fun h c hc => decide_eq_true (h c hc), fun h c hc => of_decide_eq_true (h c hc)⟩
theorem char_lt (c : Char) : c.toNat < 0x110000 := by
  have h := c.valid
  have e : c.val.toNat = c.toNat := rfl
  rcases h with h | h
  · omega
  · omega
theorem okS_of (s : String) : OkS (s : Str) := fun c hc => by
  rw [signs_ofString] at hc
  obtain ⟨ch, _, rfl⟩ := List.mem_map.mp hc
  exact char_lt ch
theorem okS_app {a b : Str} (h : OkS a) (g : OkS b) : OkS (a ++ b) := fun c hc => (mem_cps_append.mp hc).elim (h c) (g c)
theorem okS_join {sep : Str} {ts : List Str} (h : OkS sep) (g : ∀ t ∈ ts, OkS t) : OkS (Str.join sep ts) := fun c hc => by
  rcases (mem_join sep c ts).mp hc with ⟨t, ht, z⟩ | ⟨_, z⟩
  · exact g t ht c z
  · exact h c z
theorem repr_fold (q : Nat) : ∀ (l : List Nat) (acc : Array Nat), (l.foldl (fun out c => out ++ (Builtin.Str.reprChar q c).toArray) acc).toList = acc.toList ++ l.flatMap (Builtin.Str.reprChar q)
  | [], acc => by simp
  | c :: r, acc => by
    rw [List.foldl_cons, repr_fold q r]
    simp
theorem repr_char {q c d : Nat} (hq : q < 0x110000) (hc : c < 0x110000) (h : d ∈ Builtin.Str.reprChar q c) : d < 0x110000 := by
  have hex : ∀ (w : Nat) (x : Nat), x ∈ (List.replicate w 48 ++ (Nat.toDigits 16 c).map Char.toNat) → x < 0x110000 := fun w x hx => by
    rcases List.mem_append.mp hx with z | z
    · have := List.eq_of_mem_replicate z
      omega
    · obtain ⟨ch, _, rfl⟩ := List.mem_map.mp z
      exact char_lt ch
  have two : ∀ x : Nat, x < 0x110000 → d ∈ [92, x] → d < 0x110000 := fun x hx hd => by
    rcases List.mem_cons.mp hd with rfl | hd
    · decide
    · rw [List.mem_singleton.mp hd]
      exact hx
  unfold Builtin.Str.reprChar at h
  dsimp only at h
  split at h
  · exact two c hc h
  · split at h
    · exact two 110 (by decide) h
    · split at h
      · exact two 114 (by decide) h
      · split at h
        · exact two 116 (by decide) h
        · split at h
          · rw [List.mem_singleton.mp h]
            exact hc
          · split at h
            · rcases List.mem_append.mp h with z | z
              · exact two 120 (by decide) z
              · exact hex _ _ z
            · split at h
              · rcases List.mem_append.mp h with z | z
                · exact two 117 (by decide) z
                · exact hex _ _ z
              · rcases List.mem_append.mp h with z | z
                · exact two 85 (by decide) z
                · exact hex _ _ z
theorem quote_lt (x : Str) : reprQuote x < 0x110000 := by
  unfold reprQuote
  split <;> decide
theorem okS_repr {x : Str} (h : OkS x) : OkS (reprText x) := by
  intro c hc
  unfold reprText at hc
  have hq := quote_lt x
  simp only [Array.toList_push] at hc
  rw [← Array.foldl_toList, repr_fold] at hc
  simp only [List.mem_append, List.mem_cons, List.not_mem_nil, or_false, List.mem_flatMap] at hc
  rcases hc with (rfl | ⟨d, hd, hm⟩) | rfl
  · exact hq
  · exact repr_char hq (h d hd) hm
  · exact hq
mutual
theorem okS_shown : ∀ d : PyData, d.canLay0 = true → OkS d.shown
  | .none, _ => by rw [PyData.shown_none]; exact okS_of _
  | .bool b, _ => by rw [PyData.shown_bool]; cases b <;> exact okS_of _
  | .int i, _ => by rw [PyData.shown_int]; exact okS_of _
  | .str x, h => by
    rw [PyData.shown_str]
    exact okS_repr (okS_iff.mpr (by simpa only [PyData.canLay0] using h))
  | .list xs, h => by
    rw [PyData.shown_list]
    exact okS_app (okS_app (okS_of _) (okS_join (okS_of _) (okS_all xs (by simpa only [PyData.canLay0] using h)))) (okS_of _)
  | .tuple xs, h => by
    rw [PyData.shown_tuple]
    exact okS_app (okS_app (okS_of _) (okS_join (okS_of _) (okS_all xs (by simpa only [PyData.canLay0] using h)))) (okS_of _)
  | .dict _, h => by simp [PyData.canLay0] at h
theorem okS_all : ∀ xs : List PyData, PyData.canLayAll0 xs = true → ∀ t ∈ PyData.shownAll xs, OkS t
  | [], _, t, ht => by rw [PyData.shownAll_nil] at ht; exact absurd ht (by simp)
  | x :: r, h, t, ht => by
    simp only [PyData.canLayAll0, Bool.and_eq_true] at h
    rw [PyData.shownAll_cons, List.mem_cons] at ht
    rcases ht with rfl | ht
    · exact okS_shown x h.1
    · exact okS_all r h.2 t ht
end
/-- a list of texts has its shape -/
theorem shaped_strs {ys : List Str} (h : ∀ y ∈ ys, PyData.strOk y = true) : SeqAt.shaped (.list (ys.map .str)) = true := by
  have a : ∀ zs : List Str, (∀ y ∈ zs, PyData.strOk y = true) → PyData.canLayAll0 (zs.map .str) = true ∧ PyData.depthAll (zs.map .str) ≤ 0 := by
    intro zs
    induction zs with
    | nil => exact fun _ => ⟨rfl, Nat.le_of_eq (by simp [PyData.depthAll])⟩
    | cons z zs ih =>
      intro hz
      obtain ⟨h1, h2⟩ := ih fun y hy => hz y (List.mem_cons_of_mem _ hy)
      exact ⟨by simp [PyData.canLayAll0, PyData.canLay0, h1, hz z List.mem_cons_self], by simp [PyData.depthAll, PyData.depth] at h2 ⊢; exact h2⟩
  obtain ⟨h1, h2⟩ := a ys h
  unfold SeqAt.shaped
  rw [Bool.and_eq_true]
  exact ⟨by simp only [PyData.canLay0]; exact h1, decide_eq_true (by simp only [PyData.depth]; omega)⟩
theorem eqv_strs (ys : List Str) (h : ∀ y ∈ ys, PyData.strOk y = true) : PyData.eqv (.list (ys.map .str)) (.list (ys.map .str)) = true := by
  have := shaped_strs h
  unfold SeqAt.shaped at this
  rw [Bool.and_eq_true] at this
  exact SeqAt.eqv_refl _ this.1
end N
/-! W01b: what is kept, what is caught. -/
namespace J
open PySem PySem.Spec
open PyProof.Rows L2
/-- a thing that can be shown, alone and in lists -/
structure Tg (d : PyData) : Prop where
  lay : d.canLay0 = true
  shw : d.showable = true
  dep : d.depth ≤ 5
  len : rlen d ≤ 3000
  int : ∀ i : Int, d = .int i → i.natAbs.log2 < 1920
theorem Tg.sho {d : PyData} (h : Tg d) : Sho d := ⟨h.lay, h.shw, Nat.le_trans h.dep (by decide), Nat.le_trans h.len (by decide), h.int⟩
theorem tg_all {xs : List PyData} (h : ∀ x ∈ xs, Tg x) : PyData.canLayAll0 xs = true ∧ PyData.showableAll xs = true ∧ PyData.depthAll xs ≤ 5 ∧ rlenAll xs ≤ xs.length * 3002 := by
  induction xs with
  | nil => exact ⟨rfl, rfl, by simp [PyData.depthAll], Nat.zero_le _⟩
  | cons x xs ih =>
    obtain ⟨h1, h2, h3, h4⟩ := ih fun y hy => h y (List.mem_cons_of_mem _ hy)
    have g := h x List.mem_cons_self
    have g3 := g.dep
    have g4 := g.len
    refine ⟨by simp [PyData.canLayAll0, h1, g.lay], by simp [PyData.showableAll, h2, g.shw], by simp only [PyData.depthAll]; omega, ?_⟩
    simp only [rlenAll, List.length_cons]
    omega
theorem tg_list {xs : List PyData} (h : ∀ x ∈ xs, Tg x) (hn : xs.length ≤ 100) : Sho (.list xs) := by
  obtain ⟨h1, h2, h3, h4⟩ := tg_all h
  exact ⟨by simp only [PyData.canLay0]; exact h1, by simp only [PyData.showable]; exact h2, by simp only [PyData.depth]; omega, by simp only [rlen]; omega, fun i e => by cases e⟩
theorem tg_int {i : Int} (h : i.natAbs.log2 < 1920) : Tg (.int i) := ⟨rfl, by simp only [PyData.showable]; exact decide_eq_true h, by simp [PyData.depth], by simp only [rlen]; exact Nat.le_trans (int_text_len_1921 h) (by decide), fun j e => by cases e; exact h⟩
theorem eqS_tt (s : Str) : eqS (.str s) (.str s) = true := beq_self_eq_true s
section
variable {X : Cx} {ρ : REnv} {μ μ1 μ2 : Sto} {a b : Expr} {pos : Pos} {ds es : List PyData}
/-- two lists: a new one -/
theorem EVF.catL (ha : EV X a ρ μ (Ls ds) μ1) (hb : EV X b ρ μ1 (Ls es) μ2) (h : ds.length + es.length ≤ sizeLine) : EVF X (.BinOp a .Add b pos) ρ μ (ds ++ es) μ2 := by
  intro w σ H m s Q q
  refine ⟨_, pe_op op_cat (p_ex (e := a)) (p_ex (e := b)), ?_⟩
  refine ha w σ H m s _ fun v H1 m1 f1 h1 => ?_
  refine hb w σ H1 m1 (s.fr f1) _ fun u H2 m2 f2 h2 => ?_
  have h1' := h1.fr f2
  cases h1' with
  | lst ha1 hd1 =>
    cases h2 with
    | lst ha2 hd2 =>
      have hd := dqAll_append hd1 hd2
      refine ⟨_, _, _, _, rfl, rfl, (dl_some ha1).2, (dl_some ha2).2, by rw [dqAll_len hd1, dqAll_len hd2]; exact h, fun c hc => ?_⟩
      refine q c _ _ (m2.keep hc) ((f1.trans f2).trans (Fr.of_same (Same.new hc))) (fresh_of m1 f1 (fresh_of m2 f2 (Nw.of hc))) upd_same ?_
      exact dqAll_mono (keep_out (K := X.K) hc (Fr.of_same (Same.new hc)) ⟨_, upd_same⟩) _ _ hd
end
section
variable {w : World} {P : Program} {K : PySem.W.Frag} {base : Heap} {mg : Str → Option Value} {A : Nat → Addr}
abbrev nKr : List Str := ["_law_found", "_law_thing", "_law_some", "_law_last", "_law_k"]
theorem scKr : FnScope nKr ["_law_found", "_law_thing"] (defScope sLKeptRight) := ⟨rfl, rfl, rfl, by decide +kernel, rfl, by decide +kernel, by decide +kernel⟩
def cnKr (A : Nat → Addr) : Con := fun rs μ r μ' => ∃ d : PyData, rs = [Ls (errs A d), .dat d] ∧ Tg d ∧ r = Bb true ∧ μ' = μ
theorem frz_last {μ : Sto} {ds : List PyData} : frz μ.length (μ ++ [ds]) (.ptr μ.length) = Ls ds := by
  unfold frz
  dsimp only
  rw [if_neg (Nat.lt_irrefl _)]
  simp [List.getD]
theorem errAt9 (A : Nat → Addr) (d : PyData) {k : Nat} (h : k < 9) : errAt A d k = exD (A k) [(fldN k, d)] := by
  unfold errAt
  rw [if_neg (by omega), if_neg (by omega)]
theorem cKr (T : Bt mg) (E12 : Er12 P w K mg base A) (D : Df K mg "_law_kept_right" sLKeptRight) : CalG P w K mg base "_law_kept_right" 1 ["_law_found", "_law_thing"] (cnKr A) := by
  refine D.calG scKr (fun _ _ _ _ _ _ us hl => match us, hl with | [_, _], _ => rfl) (by decide) (fun rs μ r μ' h => by obtain ⟨_, _, _, _, rfl⟩ := h; rfl) fun f cdv A' outer s H E hgd hr rs μ r μ' hC => ?_
  obtain ⟨d, rfl, hd, rfl, rfl⟩ := hC
  have hu : (cxOf CX0 P w K mg base nKr "_law_kept_right" (defScope sLKeptRight) f cdv A' outer s H E).nox.A.units + 100 < cLine := by
    have := hr.un
    show (A'.deeper (envOfC "_law_kept_right" (defScope sLKeptRight) s.heap.objs.size f cdv)).units + 100 < cLine
    omega
  obtain ⟨t0, e0⟩ : ∃ t0, t0 = errs A d := ⟨_, rfl⟩
  have at_ : ∀ k, k < 12 → t0[k]? = some (errAt A d k) := fun k hk => by rw [e0]; exact errs_at A d hk
  rw [← e0]
  refine ST.cell (i := 2) (ds := [d, d, d, d, d, d] ++ [d, d]) (EVF.catL
    (LCV.evf (own := [("_law_k", 4)]) (LCV.mapT (bs := [0, 1, 2, 3, 4, 7]) (fun (k : Nat) => PyData.int (k : Int)) (fun _ => d) (IV.lst (EV.lst (ds := [.int 0, .int 1, .int 2, .int 3, .int 4, .int 7]) (AV.cons EV.int (AV.cons EV.int (AV.cons EV.int (AV.cons EV.int (AV.cons EV.int (AV.cons EV.int AV.nil)))))))) (fun k hk => ⟨_, fun _ _ _ _ _ => GV.name (i := 4) scKr.nd rfl (by first | exact Or.inl rfl | exact Or.inr rfl) (by simp), fun s2 H2 C2' cl fp => ?_⟩) (by decide)) rfl scKr.nd (blkOk_by (N := nKr) (sc := defScope sLKeptRight) (by decide +kernel))).ev
    (LCV.evf (own := [("_law_k", 4)]) (LCV.mapT (bs := [5, 6]) (fun (k : Nat) => PyData.int (k : Int)) (fun _ => d) (IV.lst (EV.lst (ds := [.int 5, .int 6]) (AV.cons EV.int (AV.cons EV.int AV.nil)))) (fun k hk => ⟨_, fun _ _ _ _ _ => GV.name (i := 4) scKr.nd rfl (by first | exact Or.inl rfl | exact Or.inr rfl) (by simp), fun s2 H2 C2' cl fp => ?_⟩) (by decide)) rfl scKr.nd (blkOk_by (N := nKr) (sc := defScope sLKeptRight) (by decide +kernel))).ev (s1000 (by simp))) scKr.nd rfl (by first | exact Or.inl rfl | exact Or.inr rfl) ?_
  · have hk9 : k < 9 ∧ fldN k = "given" := by
      simp only [List.mem_cons, List.not_mem_nil, or_false] at hk
      rcases hk with rfl | rfl | rfl | rfl | rfl | rfl <;> exact ⟨by decide, rfl⟩
    have hno := E12.no k hk9.1
    rw [hk9.2] at hno
    have hat := at_ k (by omega)
    rw [errAt9 A d hk9.1, hk9.2] at hat
    exact EV.fldX (E12.xf k (by omega)) hno (ixL (nm 0) (nm 4) (at_nat hat)) rfl
  · have hk9 : k < 9 ∧ fldN k = "index" := by
      simp only [List.mem_cons, List.not_mem_nil, or_false] at hk
      rcases hk with rfl | rfl <;> exact ⟨by decide, rfl⟩
    have hno := E12.no k hk9.1
    rw [hk9.2] at hno
    have hat := at_ k (by omega)
    rw [errAt9 A d hk9.1, hk9.2] at hat
    exact EV.fldX (E12.xf k (by omega)) hno (ixL (nm 0) (nm 4) (at_nat hat)) rfl
  have h8 := at_ 8 (by decide)
  rw [errAt9 A d (by decide)] at h8
  have h11 := at_ 11 (by decide)
  refine ST.expr (EV.app (d := d) (ds := [d, d, d, d, d, d] ++ [d, d]) (nm 2) (EV.fldX (D := A 8) (E12.xf 8 (by decide)) (E12.no 8 (by decide)) (ixL (nm 0) EV.int (at_nat (i := 8) h8)) rfl) at_last (by simp)) ?_
  rw [set_last]
  refine ST.set (i := 3) (ixL (nm 0) EV.int (at_nat (i := 11) h11)) scKr.nd rfl (Or.inl rfl) ?_
  have hE : errAt A d 11 = exD (A 11) [(Str.ofString "shown", .int 7), (Str.ofString "index", d)] := rfl
  refine ST.retZ (r := Bb true) μ'.length (Nat.le_refl _) (ρ' := [some (Ls t0), some (.dat d), some (Ls ([d, d, d, d, d, d] ++ [d, d] ++ [d])), some (.dat (errAt A d 11)), none]) ?_ (List.take_left) (EV.eq (EV.andD (cEq (EV.reprX T.repr hgd hu (nm 2) ?_) (EV.reprX T.repr hgd hu (oRep (m := 9) (EV.lst (ds := [d]) (AV.cons (nm 1) AV.nil)) (EV.eq (bLenL (ds := [d, d, d, d, d, d] ++ [d, d] ++ [d]) T (nm 2)) rfl) (by decide) (by simp)) ?_)) (fun _ => EV.one (cEq (EV.reprX T.repr hgd hu (EV.lst (ds := [d, .int 7]) (AV.cons (EV.fldX (E12.xf 11 (by decide)) E12.noI (EV.eq (nm 3) (congrArg Ent.dat hE)) rfl) (AV.cons (EV.fldX (E12.xf 11 (by decide)) E12.noS (EV.eq (nm 3) (congrArg Ent.dat hE)) rfl) AV.nil))) ?_) (EV.reprX T.repr hgd hu (EV.lst (ds := [d, .int 7]) (AV.cons (nm 1) (AV.cons EV.int AV.nil))) ?_)))) ?_) ⟨rfl, List.take_length⟩
  · show [some (Ls t0), some (.dat d), some (frz μ'.length (μ' ++ [[d, d, d, d, d, d] ++ [d, d] ++ [d]]) (.ptr μ'.length)), some (.dat (errAt A d 11)), none] = _
    rw [frz_last]
  · exact tg_list (fun x hx => by
      have : x = d := by simpa using hx
      rw [this]; exact hd) (by simp)
  · exact tg_list (fun x hx => by
      have : x = d := by simpa using hx
      rw [this]; exact hd) (by simp)
  · exact tg_list (fun x hx => by
      simp only [List.mem_cons, List.not_mem_nil, or_false] at hx
      rcases hx with rfl | rfl
      · exact hd
      · exact tg_int (by decide)) (by simp)
  · exact tg_list (fun x hx => by
      simp only [List.mem_cons, List.not_mem_nil, or_false] at hx
      rcases hx with rfl | rfl
      · exact hd
      · exact tg_int (by decide)) (by simp)
  · exact congrArg (fun z => Bb z) (by rw [Bool.and_eq_true]; exact ⟨eqS_tt _, eqS_tt _⟩)
abbrev nRr : List Str := ["_law_thing", "_law_seen", "_law_e"]
theorem scRr : FnScope nRr ["_law_thing"] (defScope sLRaisedRight) := ⟨rfl, rfl, rfl, by decide +kernel, rfl, by decide +kernel, by decide +kernel⟩
def cnRr : Con := fun rs μ r μ' => ∃ d : PyData, rs = [.dat d] ∧ Tg d ∧ r = Bb true ∧ μ' = μ
theorem cRr (T : Bt mg) (E12 : Er12 P w K mg base A) (D : Df K mg "_law_raised_right" sLRaisedRight) : CalG P w K mg base "_law_raised_right" 3 ["_law_thing"] cnRr := by
  refine D.calG scRr (fun _ _ _ _ _ _ us hl => match us, hl with | [_], _ => rfl) (by decide) (fun rs μ r μ' h => by obtain ⟨_, _, _, _, rfl⟩ := h; rfl) fun f cdv A' outer s H E hgd hr rs μ r μ' hC => ?_
  obtain ⟨d, rfl, hd, rfl, rfl⟩ := hC
  have hu : (cxOf CX0 P w K mg base nRr "_law_raised_right" (defScope sLRaisedRight) f cdv A' outer s H E).nox.A.units + 100 < cLine := by
    have := hr.un
    show (A'.deeper (envOfC "_law_raised_right" (defScope sLRaisedRight) s.heap.objs.size f cdv)).units + 100 < cLine
    omega
  obtain ⟨B0, B1, B2, g0, g1, g2, x0, x1, x2⟩ := E12.cat
  have v0 : ExcV P w K mg base "InvalidText" (A 0) "given" := E12.v 0 (by decide)
  have v7 : ExcV P w K mg base "UnknownPlan" (A 7) "given" := E12.v 7 (by decide)
  have n0 : PySem.W.findIn K (.ref (A 0)) (Str.ofString "given") = some none := E12.no 0 (by decide)
  have n7 : PySem.W.findIn K (.ref (A 7)) (Str.ofString "given") = some none := E12.no 7 (by decide)
  have hst : ∀ y ∈ [d.shown, d.shown, d.shown], PyData.strOk y = true := fun y hy => by
    have : y = d.shown := by simpa using hy
    rw [this]
    exact N.okS_iff.mp (N.okS_shown d hd.lay)
  refine ST.cell (i := 1) (ds := []) (EVF.lst (ds := []) AV.nil) scRr.nd rfl (by first | exact Or.inl rfl | exact Or.inr rfl) ?_
  refine ST.tryAs (i := 2) (y := "_law_e") (C := A 0) (B := B0) (Pb := fun o => o = .rse [some (.dat d), some (.ptr μ'.length), none] (μ' ++ [[]]) (A 0) [(Str.ofString "given", d)]) rfl rfl scRr.nd rfl rfl ⟨rfl, by decide, .inl g0⟩ (fun W' pn xe tk => ST.raiseG v0.g tk hr (nm 0) rfl) (fun o ho => ?_)
  subst ho
  refine ⟨_, _, _, _, rfl, x0, fun a dx oe pn hz hf => ⟨fun o => o = .nx [some (.dat d), some (.ptr μ'.length), some (.exc a dx [(Str.ofString "given", d)])] (μ' ++ [[.str d.shown]]), ?_, fun o h => ⟨_, _, h, ?_⟩⟩⟩
  · exact ST.expr (EV.app (d := .str d.shown) (ds := []) (nm 1) (EV.reprX T.repr hgd hu (EV.excF (D := A 0) (dt := d) ⟨E12.c 0 (by decide), E12.xf 0 (by decide), oe, List.mem_cons_self, hz, hf⟩ n0 (nm 2) rfl) hd.sho) at_last (by simp)) (ST.nil (by rw [set_last]; rfl))
  change ST _ _ _ _ [some (.dat d), some (.ptr μ'.length), none] (μ' ++ [[.str d.shown]]) _
  refine ST.tryAs (i := 2) (y := "_law_e") (C := A 7) (B := B1) (Pb := fun o => o = .rse [some (.dat d), some (.ptr μ'.length), none] (μ' ++ [[.str d.shown]]) (A 7) [(Str.ofString "given", d)]) rfl rfl scRr.nd rfl rfl ⟨rfl, by decide, .inl g1⟩ (fun W' pn xe tk => ST.raiseG v7.g tk hr (nm 0) rfl) (fun o ho => ?_)
  subst ho
  refine ⟨_, _, _, _, rfl, x1, fun a dx oe pn hz hf => ⟨fun o => o = .nx [some (.dat d), some (.ptr μ'.length), some (.exc a dx [(Str.ofString "given", d)])] (μ' ++ [[.str d.shown, .str d.shown]]), ?_, fun o h => ⟨_, _, h, ?_⟩⟩⟩
  · exact ST.expr (EV.app (d := .str d.shown) (ds := [.str d.shown]) (nm 1) (EV.reprX T.repr hgd hu (EV.excF (D := A 7) (dt := d) ⟨E12.c 7 (by decide), E12.xf 7 (by decide), oe, List.mem_cons_self, hz, hf⟩ n7 (nm 2) rfl) hd.sho) at_last (by simp)) (ST.nil (by rw [set_last]; rfl))
  change ST _ _ _ _ [some (.dat d), some (.ptr μ'.length), none] (μ' ++ [[.str d.shown, .str d.shown]]) _
  refine ST.tryAs (i := 2) (y := "_law_e") (C := A 11) (B := B2) (Pb := fun o => o = .rse [some (.dat d), some (.ptr μ'.length), none] (μ' ++ [[.str d.shown, .str d.shown]]) (A 11) [(Str.ofString "shown", .int 3), (Str.ofString "index", d)]) rfl rfl scRr.nd rfl rfl ⟨rfl, by decide, .inl g2⟩ (fun W' pn xe tk => ST.raiseB E12.b tk hr (nm 0) EV.int rfl) (fun o ho => ?_)
  subst ho
  refine ⟨_, _, _, _, rfl, x2, fun a dx oe pn hz hf => ⟨fun o => o = .nx [some (.dat d), some (.ptr μ'.length), some (.exc a dx [(Str.ofString "shown", .int 3), (Str.ofString "index", d)])] (μ' ++ [[.str d.shown, .str d.shown, .str d.shown]]), ?_, fun o h => ⟨_, _, h, ?_⟩⟩⟩
  · exact ST.expr (EV.app (d := .str d.shown) (ds := [.str d.shown, .str d.shown]) (nm 1) (EV.reprX T.repr hgd hu (EV.excF (D := A 11) (dt := d) ⟨E12.c 11 (by decide), E12.xf 11 (by decide), oe, List.mem_cons_self, hz, hf⟩ E12.noI (nm 2) rfl) hd.sho) at_last (by simp)) (ST.nil (by rw [set_last]; rfl))
  change ST _ _ _ _ [some (.dat d), some (.ptr μ'.length), none] (μ' ++ [[.str d.shown, .str d.shown, .str d.shown]]) _
  refine ST.retZ (r := Bb true) μ'.length (Nat.le_refl _) (ρ' := [some (.dat d), some (Ls [.str d.shown, .str d.shown, .str d.shown]), none]) ?_ (List.take_left) (EV.eq (cEqD (by omega) (nm 1) (oRep (m := 3) (EV.lst (ds := [.str d.shown]) (AV.cons (EV.reprX T.repr hgd hu (nm 0) hd.sho) AV.nil)) (EV.eq EV.int rfl) (by decide) (by simp)) ?_ ?_) ?_) ⟨rfl, List.take_length⟩
  · show [some (.dat d), some (frz μ'.length (μ' ++ [[.str d.shown, .str d.shown, .str d.shown]]) (.ptr μ'.length)), none] = _
    rw [frz_last]
  · exact N.shaped_strs (ys := [d.shown, d.shown, d.shown]) hst
  · exact N.shaped_strs (ys := [d.shown, d.shown, d.shown]) hst
  · exact congrArg (fun z => Bb z) (N.eqv_strs [d.shown, d.shown, d.shown] hst)
theorem so_ok : ∀ n : _root_.Fin 12, SeqAt.shaped (.list (soL n.val)) = true ∧ PyData.eqv (.list (soL n.val)) (.list (soL n.val)) = true := by decide +kernel
theorem ba_ok : ∀ n : _root_.Fin 12, SeqAt.shaped (.list (baL n.val)) = true ∧ PyData.eqv (.list (baL n.val)) (.list (baL n.val)) = true := by decide +kernel
theorem eqS_ints (i n : Nat) : eqS (.int (i : Int)) (.int (n : Int)) = (i == n) := by
  show decide ((i : Int) = (n : Int)) = _
  rw [Bool.eq_iff_iff, decide_eq_true_eq, beq_iff_eq]
  omega
abbrev nRi : List Str := ["_law_thing", "_law_found", "_law_k", "_law_due_here", "_law_at"]
theorem scRi : FnScope nRi ["_law_thing"] (defScope sLRight) := ⟨rfl, rfl, rfl, by decide +kernel, rfl, by decide +kernel, by decide +kernel⟩
def cnRi : Con := fun rs μ r μ' => ∃ d : PyData, rs = [.dat d] ∧ Tg d ∧ r = Bb true ∧ μ' = μ
theorem cRi (T : Bt mg) (C1 : Cal P w K mg base "_law_sorts" 1 ["_law_e"] (cnSo A)) (C2 : Cal P w K mg base "_law_bases" 1 ["_law_e"] (cnBa A)) (C3 : Cal P w K mg base "_law_due" 1 ["_law_k"] cnDu) (C4 : Cal P w K mg base "_law_given" 3 ["_law_thing"] (cnGi A))
    (C5 : CalG P w K mg base "_law_kept_right" 1 ["_law_found", "_law_thing"] (cnKr A)) (C6 : CalG P w K mg base "_law_raised_right" 3 ["_law_thing"] cnRr) (D : Df K mg "_law_right" sLRight) : CalG P w K mg base "_law_right" 4 ["_law_thing"] cnRi := by
  refine D.calG scRi (fun _ _ _ _ _ _ us hl => match us, hl with | [_], _ => rfl) (by decide) (fun rs μ r μ' h => by obtain ⟨_, _, _, _, rfl⟩ := h; rfl) fun f cdv A' outer s H E hgd hr rs μ r μ' hC => ?_
  obtain ⟨d, rfl, hd, rfl, rfl⟩ := hC
  have hu : (cxOf CX0 P w K mg base nRi "_law_right" (defScope sLRight) f cdv A' outer s H E).nox.A.units + 64 < cLine := by
    have := hr.un
    show (A'.deeper (envOfC "_law_right" (defScope sLRight) s.heap.objs.size f cdv)).units + 64 < cLine
    omega
  obtain ⟨t0, e0⟩ : ∃ t0, t0 = errs A d := ⟨_, rfl⟩
  have at_ : ∀ k, k < 12 → t0[k]? = some (errAt A d k) := fun k hk => by rw [e0]; exact errs_at A d hk
  have ln : t0.length = 12 := by rw [e0]; exact errs_len A d
  refine ST.for_ (is := [1]) (ds := [.list (errs A d), .list (errs A d)]) (IV.lst (EV.call C4 (hr.mono (by decide)) (AV.cons (nm 0) AV.nil) ⟨d, rfl, rfl, rfl⟩)) (fun i ρ ν => (∃ a b c, ρ = [some (.dat d), a, b, c, none]) ∧ ν = μ') ⟨⟨none, none, none, rfl⟩, rfl⟩ (fun i x ρ ν hx hI => ?_) (fun ρ ν hI => ?_)
  · obtain ⟨⟨a, b, c, rfl⟩, rfl⟩ := hI
    have ex : x = .list (errs A d) := by
      have := List.mem_iff_getElem?.mpr ⟨i, hx⟩
      simpa using this
    subst ex
    rw [← e0]
    refine ⟨_, GV.name (i := 1) scRi.nd rfl (Or.inl rfl) (by simp), ?_⟩
    refine ST.for_ (is := [2]) (ds := rngD 0 12) (IV.eqD (IV.rng1 (j := ((t0.length : Nat) : Int)) (bLenL T (nm 1)) (by omega) (by omega) T.range) (by rw [ln]; rfl)) (fun j ρ' ν' => (∃ b c, ρ' = [some (.dat d), some (.dat (.list t0)), b, c, none]) ∧ ν' = ν) ⟨⟨b, c, rfl⟩, rfl⟩ (fun j x ρ ν2 hx hI => ?_) (fun ρ ν2 hI => ?_)
    · obtain ⟨⟨b, c, rfl⟩, rfl⟩ := hI
      have hj : j < 12 ∧ x = .int (j : Int) := by
        have e : rngD 0 12 = (List.range 12).map fun (i : Nat) => PyData.int (i : Int) := by unfold rngD; simp
        rw [e, List.getElem?_map] at hx
        by_cases h : j < 12
        · rw [List.getElem?_range h] at hx
          cases hx
          exact ⟨h, rfl⟩
        · rw [List.getElem?_eq_none (by rw [List.length_range]; omega)] at hx
          cases hx
      obtain ⟨hj, rfl⟩ := hj
      obtain ⟨so1, so2⟩ := so_ok ⟨j, hj⟩
      obtain ⟨ba1, ba2⟩ := ba_ok ⟨j, hj⟩
      have hat := at_ j hj
      refine ⟨_, GV.name (i := 2) scRi.nd rfl (by first | exact Or.inl rfl | exact Or.inr rfl) (by simp), ?_⟩
      refine ST.lc (i := 3) (own := [("_law_at", 4)]) (LCV.mapT (bs := List.range 12) (fun (i : Nat) => PyData.int (i : Int)) (fun i => .bool (i == j)) (IV.eqD (IV.rng1 (j := ((t0.length : Nat) : Int)) (bLenL T (nm 1)) (by omega) (by omega) T.range) (by rw [ln]; rfl)) (fun i hi => ⟨_, fun _ _ _ _ _ => GV.name (i := 4) scRi.nd rfl (by first | exact Or.inl rfl | exact Or.inr rfl) (by simp), fun _ _ _ _ _ => EV.eq (cEq (nm 4) (nm 2)) (congrArg (fun z => Bb z) (eqS_ints i j))⟩) (by decide)) rfl scRi.nd rfl rfl (blkOk_by (N := nRi) (sc := defScope sLRight) (by decide +kernel)) ?_ rfl
      refine ST.ifNo (WV.tv (WV.orP (tNeD hu (EV.call C1 (hr.mono (by decide)) (AV.cons (ixL (nm 1) (nm 2) (at_nat hat)) AV.nil) ⟨errAt A d j, j, rfl, ⟨hj, errAt_er A d j⟩, rfl, rfl⟩) (nm 3) so1 so1) (WV.or1 (tNeD hu (EV.call C2 (hr.mono (by decide)) (AV.cons (ixL (nm 1) (nm 2) (at_nat hat)) AV.nil) ⟨errAt A d j, j, rfl, ⟨hj, errAt_er A d j⟩, rfl, rfl⟩) (EV.call C3 (hr.mono (by decide)) (AV.cons (nm 2) AV.nil) ⟨j, rfl, hj, rfl, rfl⟩) ba1 ba1)))) (by rw [so2, ba2]; rfl) (ST.nil ⟨⟨_, _, rfl⟩, rfl⟩)
    · obtain ⟨⟨b, c, rfl⟩, rfl⟩ := hI
      exact ST.ifNo (TV.not (TV.val (EV.callG C5 hgd (hr.mono (by decide)) (AV.cons (nm 1) (AV.cons (nm 0) AV.nil)) ⟨d, by rw [e0], hd, rfl, rfl⟩))) rfl (ST.nil ⟨⟨_, _, _, rfl⟩, rfl⟩)
  · obtain ⟨⟨a, b, c, rfl⟩, rfl⟩ := hI
    exact ST.retP (EV.callG C6 hgd (hr.mono (by decide)) (AV.cons (nm 0) AV.nil) ⟨d, rfl, hd, rfl, rfl⟩) rfl
end
end J
/-! LT: the law over its drawn numbers, and its call; tables of code objects. -/
namespace J
open PySem PySem.Spec
open PyProof.Rows L2
section
variable {w : World} {P : Program} {K : PySem.W.Frag} {base : Heap} {mg : Str → Option Value} {C : Addr}
def spLawT (K : PySem.W.Frag) : Sp := fun vs H Q _ => ∃ (a : Addr) (ns : List Int), vs = [V.ref a] ∧ SqL K H a (ns.map V.int) ∧ LamX.Tabs (tabsK K) H ∧ ∀ H', Q (.bl true) H'
theorem seq_dl {H : Hp} {a : Addr} {xs : List V} (h : SqL K H a xs) : SqL K (dl H (Wd.mk [] []).all) a xs := by
  have nin : a ∉ (Wd.mk [] []).all := fun z => by cases z
  rcases h with (h | ⟨o, h⟩) | h
  · exact .inl (.inl (dl_of nin h))
  · exact .inl (.inr ⟨o, dl_of nin h⟩)
  · exact .inr h
theorem mem0 {G : Hp} (t : LamX.Tabs (tabsK K) G) : Mem K G ⟨[], []⟩ [] := ⟨List.nodup_nil, rfl, (fun k a xs h1 => by simp at h1), (fun b hb => by cases hb), (fun b hb => by cases hb), t⟩
theorem len_mx (m : Nat) (h2 : 2 ≤ m) (z : Int) (h0 : 0 ≤ z) : ∃ n : Nat, n ≤ m ∧ (if (if (m : Int) < z then (m : Int) else z) > 2 then (if (m : Int) < z then (m : Int) else z) else 2) = (n : Int) := by
  by_cases h1 : (m : Int) < z
  · rw [if_pos h1]
    by_cases h3 : (m : Int) > 2
    · rw [if_pos h3]
      exact ⟨m, Nat.le_refl _, rfl⟩
    · rw [if_neg h3]
      exact ⟨2, h2, rfl⟩
  · rw [if_neg h1]
    by_cases h2 : z > 2
    · rw [if_pos h2]
      exact ⟨z.toNat, by omega, by omega⟩
    · rw [if_neg h2]
      exact ⟨2, by omega, rfl⟩
theorem len_mx0 (m : Nat) (h2 : 2 ≤ m) (z : Int) (h0 : 0 ≤ z) : ∃ n : Nat, n ≤ m ∧ (if (if (m : Int) < z then (m : Int) else z) > 2 then (if (m : Int) < z then (m : Int) else z) else 2) = (n : Int) := len_mx m h2 z h0
/-- the law's statements, from a script that is followed, to True -/
theorem gLawS {N : List Str} {kr : Nat} (Sc : FnScope N ["_law_cells"] (defScope sLaw)) (h1 : 1 ≤ N.length) {f : Addr} {fd : FuncData} (F : Fun K "law" "law" sLaw f fd)
    (body : ∀ (cdv : Value) (B : Around) (o : List Env) (t : Shared) (G : Hp) (E : XK) (ns : List Int), B.guards = some [] → Room kr (B.deeper (envOfC "law" (defScope sLaw) t.heap.objs.size f cdv)) →
      ST (cxOf CX0 P w K mg base N "law" (defScope sLaw) f cdv B o t G E).nox W0 0 (defBody sLaw) (some (.scr ns) :: List.replicate (N.length - 1) none) [] (PostR (Bb true) [])) : FnG P w K mg base (kr + 1) f fd ["_law_cells"] (spLawT K) := by
  refine funG F Sc (fun xs G R E h => ?_) (fun cdv B o t G xs R E hgd hr h => ?_)
  · obtain ⟨a, ns, rfl, _⟩ := h
    rfl
  · obtain ⟨a, ns, rfl, hs, ht, q⟩ := h
    refine (body cdv B o t G E ns hgd hr) ⟨[], []⟩ _ G _ (Nat.zero_le _) (mem0 ht) (sl_start (N := N) (rs := [.scr ns]) (.cons (r := .scr ns) ⟨a, rfl, seq_dl hs⟩ .nil) h1) fun oo ho => ?_
    match oo, ho with
    | .ret r2 μ2, ho =>
      obtain ⟨rfl, rfl⟩ := ho
      intro v H' m' f' hv'
      cases hv'
      exact q H'
/-- the facts of a table at P, its code object at c -/
structure TabF (K : PySem.W.Frag) (g : Heap) (cp : Addr × Addr) : Prop where
  emp : g.get? cp.2 = some { cls := .none, data := .fields #[] }
  out : K.lookup cp.2 = none
  code : PySem.W.CodeHd g cp.1 cp.2
/-- the call of the law, from a heap in which the script and the tables are followed -/
theorem callT {mb : Str → Option Value} {k : Nat} {fa a : Addr} {cs : List (Addr × Addr)} {fd : FuncData} {x : Str} {t : Shared} {us : List Value} {ns : List Int} {sp : Sp}
    (inK : K.In t.heap) (gns : t.heap.Ns mainGlobals mg) (bns : t.heap.Ns builtinsNs mb) (bts : ∀ z : Str, z ≠ "__name__" → mb z = bootBuiltins z) (nol : t.heap.NoLimit) (ngen : t.gens = #[]) (tf : ∀ cp ∈ cs, TabF K t.heap cp)
    (bmn : ∃ (bm : Addr) (ob : Obj), mg "__builtins__" = some (.ref bm) ∧ bm ≠ builtinsNs ∧ t.heap.get? bm = some ob ∧ ob.cls = .type "module" ∧ ob.dict = some builtinsNs ∧ ob.data = .plain)
    (scr : t.heap.get? a = some { cls := .type "list", data := .seq us.toArray }) (his : IntsAre us ns) (small : ns.length ≤ sizeLine) (room : Room k callerA)
    (hF : ∀ bs : Heap, K.In bs → bs.Ns mainGlobals mg → (∀ cp ∈ cs, LamX.TabB bs mg cp.1 cp.2) → FnG P w K mg bs k fa fd [x] sp) (bnd : ∀ (t : Shared) (u : Value), BindsTo t fd ⟨[u], []⟩ [(x, u)])
    (hsp : ∀ G : Hp, (∀ cp ∈ cs, G cp.2 = some (.tbl #[])) → SqL K G a (ns.map V.int) → sp [.ref a] G (fun v _ => v = .bl true) fun _ _ _ => False) :
    codeAny (model P w) callerA (.call (.ref fa) ⟨[.ref a], []⟩) (fun r t' => r = .ok (.ret (.bool true)) ∧ OldK t.heap t'.heap ∧ t'.os = t.os ∧ AllBare t'.gens) t := by
  have vals := vals_ints his
  have many := his.length
  have tab0 : ∀ b : Addr, b ∈ cs.map (·.2) → t.heap.get? b = some { cls := .none, data := .fields #[] } := fun b hb => by
    obtain ⟨cp, hcp, rfl⟩ := List.mem_map.mp hb
    exact (tf cp hcp).emp
  have scrT : a ∉ cs.map (·.2) := fun hb => by
    have e1 := tab0 a hb
    rw [scr] at e1
    cases (show Data.seq us.toArray _ = Data.fields #[] from congrArg Obj.data (Option.some.inj e1))
  have inT : ∀ cp ∈ cs, cp.2 ∈ cs.map (·.2) := fun cp hcp => List.mem_map_of_mem hcp
  have main : ∀ G : Hp, (∀ cp ∈ cs, G cp.2 = some (.tbl #[])) → (∀ b, b ∉ cs.map (·.2) → G b = none ∨ ∃ ob ys, G b = some (.frz ob (.lst ys))) → SqL K G a (ns.map V.int) → HOk P w G t.heap → (∀ b, G b ≠ none → b = a ∨ b ∈ cs.map (·.2)) → (G a ≠ none → K.lookup a = none) →
      codeAny (model P w) callerA (.call (.ref fa) ⟨[.ref a], []⟩) (fun r t' => r = .ok (.ret (.bool true)) ∧ OldK t.heap t'.heap ∧ t'.os = t.os ∧ AllBare t'.gens) t := by
    intro G tabs only seq ok here lost
    have nothing : ∀ {b : Addr} {o : Obj}, t.heap.get? b = some o → (∀ ys n, o.data ≠ .seq ys n) → o.data ≠ .fields #[] → G b = none := fun {b o} e1 d1 d2 => by
      cases z : G b with
      | none => rfl
      | some u =>
        rcases here b (by rw [z]; exact Option.some_ne_none u) with ba | ba
        · rw [ba, scr] at e1
          cases e1
          exact absurd rfl (d1 _ _)
        · rw [tab0 b ba] at e1
          cases e1
          exact absurd rfl d2
    have noD : ∀ {b : Addr} {o : Obj} {es : Array DictEntry} {ep : Nat}, t.heap.get? b = some o → o.data = .dict es ep → G b = none := fun {b o es ep} e1 e2 => nothing e1 (fun ys n z => by rw [e2] at z; cases z) (fun z => by rw [e2] at z; cases z)
    have nsB : ∀ {b : Addr} {m : Str → Option Value}, t.heap.Ns b m → (hidT t.heap G).Ns b m := fun {b m} h => by
      obtain ⟨o, es, ep, e1, e2, e3⟩ := h
      exact ⟨o, es, ep, hidT_get e1 (noD e1 e2), e2, e3⟩
    have inB : K.In (hidT t.heap G) := fun b o e1 => hidT_get (inK b o e1) (by
      cases z : G b with
      | none => rfl
      | some u =>
        rcases here b (by rw [z]; exact Option.some_ne_none u) with ba | ba
        · rw [ba, lost (by rw [← ba, z]; exact Option.some_ne_none u)] at e1
          cases e1
        · obtain ⟨cp, hcp, ec⟩ := List.mem_map.mp ba
          rw [← ec, (tf cp hcp).out] at e1
          cases e1)
    have nolB : (hidT t.heap G).NoLimit := by
      obtain ⟨mc, l1, l2⟩ := nol
      exact ⟨mc, nsB l1, l2⟩
    have md : Mod K mg (hidT t.heap G) := ⟨inB, nsB gns, ⟨mb, nsB bns, bts⟩, nolB⟩
    have tb : ∀ cp ∈ cs, LamX.TabB (hidT t.heap G) mg cp.1 cp.2 := fun cp hcp => by
      have F0 := tf cp hcp
      refine ⟨?_, ?_, fun z => ?_⟩
      · obtain ⟨o, ws, file, tf', flags, tg, inF, text, tt, q1, q2, q3, q4, q5, q6, q7, q8, q9, qn⟩ := F0.code
        refine ⟨o, ws, file, tf', flags, tg, inF, text, tt, hidT_get q1 (nothing q1 (fun ys n z => ?_) fun z => ?_), q2, q3, q4, q5, q6, q7, q8, q9, qn⟩
        · rw [q3] at z
          cases z
        · rw [q3] at z
          cases z
          simp at q4
      · obtain ⟨bm, ob, b1, b2, b3, b4, b5, b6⟩ := bmn
        have notG : bm ≠ mainGlobals := fun z => by
          obtain ⟨o, es, ep, e1, e2, _⟩ := gns
          rw [z, e1] at b3
          cases b3
          rw [b6] at e2
          cases e2
        have notP : bm ≠ cp.2 := fun z => by
          rw [z, F0.emp] at b3
          cases b3
          cases b6
        refine ⟨bm, ob, b1, b2, notG, notP, hidT_get b3 (nothing b3 (fun ys n z => ?_) fun z => ?_), b4, b5, b6⟩
        · rw [b6] at z
          cases z
        · rw [b6] at z
          cases z
      · obtain ⟨o, es, ep, e1, e2, _⟩ := gns
        rw [z, F0.emp] at e1
        cases e1
        cases e2
    have en : Env0 P w K mg (hidT t.heap G) callerA [] t G := ⟨rfl, md, fun b o e1 => of_hidT e1, Nat.le_of_eq (hidT_size _ _), trivial, fun b hb => absurd (show b ∈ ([] : List Addr) from hb) List.not_mem_nil, ok, .of_eq ngen⟩
    refine codeAny_mono ((hF _ inB (nsB gns) tb).go callerA [] t G ⟨[.ref a], []⟩ [.ref a] [.ref a] _ _ rfl room en (bnd t (.ref a)) (.cons rfl .nil) (hsp G tabs seq)) fun r t' h => ?_
    match r, h with
    | .ok (.ret u), h =>
      obtain ⟨v, G', e1, e2, un, ok', rel, hv⟩ := h
      have hv' : v = .bl true := hv
      subst hv'
      obtain rfl : u = Value.bool true := rel
      have grown : ∀ cp ∈ cs, ∃ more : Array Value, t'.heap.get? cp.2 = some { cls := .none, data := .fields more } := fun cp hcp => by
        obtain ⟨more, z⟩ := un.tbls cp.2 #[] (tabs cp hcp)
        exact ⟨_, ok' cp.2 _ z⟩
      have rest : ∀ b o, b ∉ cs.map (·.2) → t.heap.get? b = some o → t'.heap.get? b = some o := fun b o nb e3 => by
        cases z : G b with
        | none => exact un.keep b o e3 z (fun y => absurd (show b ∈ ([] : List Addr) from y) List.not_mem_nil) List.not_mem_nil
        | some u =>
          rcases only b nb with y | ⟨ob, xs, y⟩
          · rw [z] at y
            cases y
          · obtain ⟨g1, _⟩ := ok b _ y
            obtain ⟨g2, _⟩ := ok' b _ (un.frzs b ob _ y)
            rw [e3] at g1
            cases g1
            exact g2
      refine ⟨rfl, ⟨fun b o e3 => ?_, fun b o e3 => ?_⟩, e1, e2⟩
      · rcases Decidable.em (b ∈ cs.map (·.2)) with hb | hb
        · obtain ⟨cp, hcp, rfl⟩ := List.mem_map.mp hb
          obtain ⟨more, hm⟩ := grown cp hcp
          have F0 := tf cp hcp
          rw [F0.emp] at e3
          cases e3
          exact .inr (.inl ⟨(F0.code.tab F0.emp).isCodeTable, rfl, #[], more, rfl, by rw [Array.empty_append]; exact hm⟩)
        · exact .inl (rest b o hb e3)
      · rcases Decidable.em (b ∈ cs.map (·.2)) with hb | hb
        · obtain ⟨cp, hcp, rfl⟩ := List.mem_map.mp hb
          exact (grown cp hcp).elim fun more hm => ⟨_, hm⟩
        · exact ⟨o, rest b o hb e3⟩
  cases hk : K.lookup a with
  | some o =>
    have e1 := inK a o hk
    rw [scr] at e1
    cases e1
    have at_t : ∀ b, b ∉ cs.map (·.2) → (if b ∈ cs.map (·.2) then some (HO.tbl #[]) else none) = none := fun b hb => if_neg hb
    refine main (fun b => if b ∈ cs.map (·.2) then some (.tbl #[]) else none) (fun cp hcp => if_pos (inT cp hcp)) (fun b hb => .inl (at_t b hb)) (.inr ⟨_, us.toArray, _, hk, rfl, rfl, rfl, by rw [List.size_toArray, many]; exact small, by simpa using vals⟩) (fun b u z => ?_) (fun b z => ?_) (fun z => absurd (at_t a scrT) z)
    · rcases Decidable.em (b ∈ cs.map (·.2)) with hb | hb
      · cases (if_pos hb).symm.trans z
        exact tab0 b hb
      · cases (if_neg hb).symm.trans z
    · rcases Decidable.em (b ∈ cs.map (·.2)) with hb | hb
      · exact .inr hb
      · exact absurd (at_t b hb) z
  | none =>
    refine main (fun b => if b = a then some (.frz { cls := .type "list", data := .seq us.toArray } (.lst (ns.map V.int))) else if b ∈ cs.map (·.2) then some (.tbl #[]) else none) (fun cp hcp => ?_) (fun b hb => ?_) (.inl (.inr ⟨_, if_pos rfl⟩)) (fun b u z => ?_) (fun b z => ?_) (fun _ => hk)
    · have na : cp.2 ≠ a := fun z => scrT (by rw [← z]; exact inT cp hcp)
      exact (if_neg na).trans (if_pos (inT cp hcp))
    · rcases Decidable.em (b = a) with ha | ha
      · exact Or.inr ⟨_, _, if_pos ha⟩
      · exact Or.inl ((if_neg ha).trans (if_neg hb))
    · rcases Decidable.em (b = a) with ha | ha
      · subst ha
        cases (if_pos rfl).symm.trans z
        exact ⟨scr, by rw [List.length_map]; exact small, us, _, vals, scr⟩
      · have z1 := (if_neg ha).symm.trans z
        rcases Decidable.em (b ∈ cs.map (·.2)) with hb | hb
        · cases (if_pos hb).symm.trans z1
          exact tab0 b hb
        · cases (if_neg hb).symm.trans z1
    · rcases Decidable.em (b = a) with ha | ha
      · exact .inl ha
      · rcases Decidable.em (b ∈ cs.map (·.2)) with hb | hb
        · exact .inr hb
        · exact absurd ((if_neg ha).trans (if_neg hb)) z
/-- the tables of the defs that make lambdas, as the top leaves them -/
def lamTabs (K : PySem.W.Frag) : List (Addr × Addr) := lamDefs.filterMap fun x => lamTab K x
/-- no two of the tables are one -/
def lamOk (K : PySem.W.Frag) : Bool := lamDefs.all fun x => match lamTab K x with
  | some (_, P) => (tabsK K).all (fun p => decide (p.1 = P → p.2 = x ++ ".<locals>." ++ "<lambda>"))
  | none => true
def tabOk (K : PySem.W.Frag) (ts : List Addr) : Bool := (lamTabs K).all fun cp => ts.contains cp.2 && ((K.lookup cp.2).isNone && PySem.W.codeHdIn K cp.1 cp.2)
theorem tabF_of {KK : Params → PySem.W.Frag} {as : List Addr} {e : ∀ P, as = (KK P).map (·.1)} {ts : List Addr} {w : World} {h : Heap} (Y : (PySem.W.kmHook KK as e ts).says w h) (hk : tabOk (KK w.params) ts = true) : (KK w.params).In h ∧ ∀ cp ∈ lamTabs (KK w.params), TabF (KK w.params) h cp := by
  have inK := PySem.W.km_in_of Y
  refine ⟨inK, fun cp hcp => ?_⟩
  have z := List.all_eq_true.mp hk cp hcp
  simp only [Bool.and_eq_true] at z
  obtain ⟨z1, z2, z3⟩ := z
  exact ⟨PySem.W.km_tabs_of Y cp.2 (by simpa using z1), by simpa using z2, PySem.W.codeHd_of_K inK z3⟩
theorem tabs_start {H : Hp} (h : ∀ cp ∈ lamTabs K, H cp.2 = some (.tbl #[])) : LamX.Tabs (tabsK K) H := fun p hp => by
  obtain ⟨x, hx, e⟩ := List.mem_filterMap.mp hp
  cases ht : lamTab K x with
  | none => rw [ht] at e; cases e
  | some cp =>
    rw [ht] at e
    cases e
    exact LamX.TabS.nil (h cp (List.mem_filterMap.mpr ⟨x, hx, ht⟩))
/-- from the head's goal to the law's promise -/
theorem walkT {l : PySem.W.OpenLaw} {n k : Nat} {q : Program} {loose : List Str} {XP : (Str → Option Value) → Heap → Prop} {YP : World → Heap → Prop} {d : DefRec} {KK : Params → PySem.W.Frag} {x : Str}
    (hn : l.most = some n) (hn2 : n ≤ sizeLine) (hdf : d.params.defaults = []) (room : Room k callerA) (hY : ∀ (w : World) (h : Heap), YP w h → (KK w.params).In h ∧ ∀ cp ∈ lamTabs (KK w.params), TabF (KK w.params) h cp) (hO : ∀ w : World, lamOk (KK w.params) = true)
    (F : ∀ (w : World) (mg : Str → Option Value) (fa : Addr) (h : Heap), (KK w.params).In h → h.Ns mainGlobals mg → mg d.name = some (.ref fa) →
      ∃ fd : FuncData, (∀ (t : Shared) (u : Value), BindsTo t fd ⟨[u], []⟩ [(x, u)]) ∧ ∀ bs : Heap, (KK w.params).In bs → bs.Ns mainGlobals mg → (∀ y ∈ lamDefs, (lamTab (KK w.params) y).isSome = true → LamB (KK w.params) mg bs y) → FnG l.prog w (KK w.params) mg bs k fa fd [x] (spLawT (KK w.params))) : PySem.W.WalkO q loose XP YP l.row.toRowW d [] (fun f vs => PySem.call f vs) := by
  refine Att.attach_call hn hdf fun w s0 t mg mb fa o pm cd doc a us ns Gd Y ho hd hcd hm hobj hi hlen hg => ?_
  obtain ⟨inK, tf⟩ := hY w _ Y
  have O := List.all_eq_true.mp (hO w)
  obtain ⟨fd, hb, hF⟩ := F w mg fa _ inK Gd.T.g hm
  refine callT (cs := lamTabs (KK w.params)) inK Gd.T.g Gd.T.b Gd.T.builtins Gd.T.nolimit hg tf Gd.T.bmain hobj hi (Nat.le_trans hlen hn2) room (fun bs i1 i2 tb => hF bs i1 i2 fun y hy hs => ?_) hb fun G tabs seq => ⟨a, ns, rfl, seq, tabs_start tabs, fun _ => rfl⟩
  cases ht : lamTab (KK w.params) y with
  | none => rw [ht] at hs; cases hs
  | some cp =>
    obtain ⟨c, Pt⟩ := cp
    have z := O y hy
    rw [ht] at z
    refine ⟨c, Pt, ht, tb _ (List.mem_filterMap.mpr ⟨y, hy, ht⟩), hy, fun p hp hpe => ?_⟩
    have z3 := List.all_eq_true.mp z p hp
    exact of_decide_eq_true z3 hpe
end
/-- the same for a law without lambdas -/
theorem walkN {l : PySem.W.OpenLaw} {n k : Nat} {q : Program} {loose : List Str} {XP : (Str → Option Value) → Heap → Prop} {YP : World → Heap → Prop} {d : DefRec} {KK : Params → PySem.W.Frag} {x : Str}
    (hn : l.most = some n) (hn2 : n ≤ sizeLine) (hdf : d.params.defaults = []) (room : Room k callerA) (hY : ∀ (w : World) (h : Heap), YP w h → (KK w.params).In h) (hO : ∀ w : World, (lamTabs (KK w.params)).isEmpty = true)
    (F : ∀ (w : World) (mg : Str → Option Value) (fa : Addr) (h : Heap), (KK w.params).In h → h.Ns mainGlobals mg → mg d.name = some (.ref fa) →
      ∃ fd : FuncData, (∀ (t : Shared) (u : Value), BindsTo t fd ⟨[u], []⟩ [(x, u)]) ∧ ∀ bs : Heap, (KK w.params).In bs → bs.Ns mainGlobals mg → FnG l.prog w (KK w.params) mg bs k fa fd [x] (spLawT (KK w.params))) : PySem.W.WalkO q loose XP YP l.row.toRowW d [] (fun f vs => PySem.call f vs) := by
  have hE : ∀ w : World, lamTabs (KK w.params) = [] := fun w => List.isEmpty_iff.mp (hO w)
  refine walkT (x := x) hn hn2 hdf room (fun w h Y => ⟨hY w h Y, fun cp hcp => ?_⟩) (fun w => ?_) fun w mg fa h KX G hm => ?_
  · rw [hE w] at hcp
    cases hcp
  · unfold lamOk
    rw [List.all_eq_true]
    intro x hx
    cases e : lamTab (KK w.params) x with
    | none => rfl
    | some cp =>
      have : cp ∈ lamTabs (KK w.params) := List.mem_filterMap.mpr ⟨x, hx, e⟩
      rw [hE w] at this
      cases this
  · obtain ⟨fd, hb, hF⟩ := F w mg fa h KX G hm
    exact ⟨fd, hb, fun bs i1 i2 _ => hF bs i1 i2⟩
end J
/-! W01c: the law. -/
namespace J
open PySem PySem.Spec
open PyProof.Rows L2
/-- the limits -/
structure Lim (mg : Str → Option Value) : Prop where
  l0 : ∃ t, mg "MOST_PLANS" = some (.int 4 t)
  l1 : ∃ t, mg "MOST_ROUNDS" = some (.int 5 t)
  l2 : ∃ t, mg "MOST_CLAUSES" = some (.int 3 t)
  l3 : ∃ t, mg "MOST_CLASSES" = some (.int 3 t)
  l4 : ∃ t, mg "MOST_FAR" = some (.int 4 t)
  l5 : ∃ t, mg "MOST_LAST" = some (.int 4 t)
  l6 : ∃ t, mg "MOST_BASE" = some (.int 4 t)
  l7 : ∃ t, mg "MOST_LEVEL" = some (.int 100 t)
  l8 : ∃ t, mg "MOST_SIZE" = some (.int 1000000000000 t)
  l9 : ∃ t, mg "MOST_CLAIMED" = some (.int 1000000000000 t)
  l10 : ∃ t, mg "MOST_PIECES" = some (.int 12 t)
  l11 : ∃ t, mg "MOST_SIGNS" = some (.int 1000 t)
section
variable {w : World} {P : Program} {K : PySem.W.Frag} {base : Heap} {mg : Str → Option Value} {A : Nat → Addr}
abbrev nLa : List Str := ["_law_cells", "_law_some", "_law_things", "_law_cell", "_law_thing"]
theorem scLa : FnScope nLa ["_law_cells"] (defScope sLaw) := ⟨rfl, rfl, rfl, by decide +kernel, rfl, by decide +kernel, by decide +kernel⟩
def limD : List PyData := [.int 4, .int 5, .int 3, .int 3, .int 4, .int 4, .int 4, .int 100, .int 1000000000000, .int 1000000000000, .int 12, .int 1000]
def fixD : List PyData := [.none, .str "up", .tuple [.int 1, .str "x"], .bool true, .int (-3)]
theorem tg_str {s : Str} (h : PyData.strOk s = true) (hl : s.length ≤ 20) : Tg (.str s) := ⟨by simp [PyData.canLay0, h], by simp [PyData.showable], by simp [PyData.depth], by simp only [rlen]; omega, fun i e => by cases e⟩
theorem fix_tg : ∀ d ∈ fixD, Tg d := fun d hd => by
  unfold fixD at hd
  simp only [List.mem_cons, List.not_mem_nil, or_false] at hd
  rcases hd with rfl | rfl | rfl | rfl | rfl
  · exact ⟨rfl, by simp [PyData.showable], by simp [PyData.depth], by simp only [rlen]; omega, fun i e => by cases e⟩
  · exact tg_str (by decide +kernel) (by decide +kernel)
  · have h : ∀ x ∈ [PyData.int 1, .str "x"], Tg x := fun x hx => by
      simp only [List.mem_cons, List.not_mem_nil, or_false] at hx
      rcases hx with rfl | rfl
      · exact tg_int (by decide)
      · exact tg_str (by decide +kernel) (by decide +kernel)
    obtain ⟨h1, h2, h3, h4⟩ := tg_all h
    refine ⟨by simp only [PyData.canLay0]; exact h1, by simp only [PyData.showable]; exact h2, ?_, ?_, fun i e => by cases e⟩
    · simp [PyData.depth, PyData.depthAll]
    · have e1 := int_text_len_1921 (i := 1) (by decide)
      have e2 : (Str.ofString "x").length = 1 := by decide +kernel
      simp only [rlen, rlenAll, e2]
      omega
  · exact ⟨rfl, by simp [PyData.showable], by simp [PyData.depth], by simp only [rlen]; omega, fun i e => by cases e⟩
  · exact tg_int (by decide)
def cellD (ns : List Int) : List PyData := (cutD (ns.map PyData.int) none (some 3)).map fun d => match d with
  | .int i => .int (i % 10 ^ 12)
  | d => d
theorem cut_ints (ns : List Int) : ∃ ms : List Int, cutD (ns.map PyData.int) none (some 3) = ms.map PyData.int ∧ ms.length ≤ 3 := by
  refine ⟨ns.take (min 3 ns.length), ?_, by rw [List.length_take]; omega⟩
  unfold cutD
  rw [List.map_take]
  have : HT.sIx (ns.map PyData.int).length (ns.map PyData.int).length (some 3) = min 3 (ns.map PyData.int).length := HT.sIx_nat _ _ 3
  rw [this, List.length_map]
  rfl
theorem filter_no {α : Type} (l : List α) : l.filter (fun _ => false) = [] := by
  induction l with
  | nil => rfl
  | cons a l ih => rw [List.filter_cons, if_neg (by decide), ih]
theorem gLaw (T : Bt mg) (M : Lim mg) (C : CalG P w K mg base "_law_right" 4 ["_law_thing"] cnRi) {f : Addr} {fd : FuncData} (F : Fun K "law" "law" sLaw f fd) : FnG P w K mg base 5 f fd ["_law_cells"] (spLawT K) := by
  refine gLawS (kr := 4) scLa (by decide) F fun cdv B o t G E ns hgd hr => ?_
  have hu : (cxOf CX0 P w K mg base nLa "law" (defScope sLaw) f cdv B o t G E).nox.A.units + 64 < cLine := by
    have := hr.un
    show (B.deeper (envOfC "law" (defScope sLaw) t.heap.objs.size f cdv)).units + 64 < cLine
    omega
  refine ST.set (i := 1) (r := Ls [.int 4, .int 5, .int 3, .int 3, .int 4, .int 4, .int 4]) (EV.lst (ds := [.int 4, .int 5, .int 3, .int 3, .int 4, .int 4, .int 4]) (AV.cons (gI M.l0) (AV.cons (gI M.l1) (AV.cons (gI M.l2) (AV.cons (gI M.l3) (AV.cons (gI M.l4) (AV.cons (gI M.l5) (AV.cons (gI M.l6) AV.nil)))))))) scLa.nd rfl (Or.inl rfl) ?_
  refine ST.set (i := 1) (oCat (nm 1) (EV.lst (ds := [.int 100, .int 1000000000000, .int 1000000000000, .int 12, .int 1000]) (AV.cons (gI M.l7) (AV.cons (gI M.l8) (AV.cons (gI M.l9) (AV.cons (gI M.l10) (AV.cons (gI M.l11) AV.nil)))))) (s1000 (by simp))) scLa.nd rfl (Or.inl rfl) ?_
  have hp : ∀ {X : Cx} {ρ : REnv} {μ : Sto} {p1 p2 p3 : Pos} {j1 j2}, EV X (.BinOp (.Constant (.int 10) j1 p1) .Pow (.Constant (.int 12) j2 p2) p3) ρ μ (Ii 1000000000000) μ := fun {X ρ μ p1 p2 p3 j1 j2} => EV.eq (oPow EV.int EV.int ⟨by decide, by decide, by decide⟩) rfl
  refine ST.ifNo (tNeD hu (d := .list limD) (d2 := .list limD) (nm 1) (EV.lst (ds := limD) (AV.cons EV.int (AV.cons EV.int (AV.cons EV.int (AV.cons EV.int (AV.cons EV.int (AV.cons EV.int (AV.cons EV.int (AV.cons EV.int (AV.cons hp (AV.cons hp (AV.cons EV.int (AV.cons EV.int AV.nil))))))))))))) (by decide +kernel) (by decide +kernel)) (by decide +kernel) ?_
  obtain ⟨ms, hms, hml⟩ := cut_ints ns
  refine ST.set (i := 2) (r := Ls (fixD ++ ms.map fun i => .int (i % 1000000000000))) (oCat (EV.lst (ds := fixD) (AV.cons EV.non (AV.cons EV.str (AV.cons (EV.tup (ds := [.int 1, .str "x"]) (AV.cons EV.int (AV.cons EV.str AV.nil))) (AV.cons EV.bl (AV.cons (EV.neg EV.int) AV.nil))))))
    (LCV.evf (own := [("_law_cell", 3)]) (LCV.mapT (bs := ms) (fun i => PyData.int i) (fun i => .int (i % 1000000000000)) (IV.lst (EV.eq (EV.slScr (nm 0) PartV.none (PartV.some EV.int)) (congrArg Ls hms))) (fun i hi => ⟨_, fun _ _ _ _ _ => GV.name (i := 3) scLa.nd rfl (by first | exact Or.inl rfl | exact Or.inr rfl) (by simp), fun _ _ _ _ _ => oMod (bIntI T (nm 3)) hp (by decide)⟩) (by omega)) rfl scLa.nd (blkOk_by (N := nLa) (sc := defScope sLaw) (by decide +kernel))).ev (s1000 (by rw [List.length_map]; show 5 + ms.length ≤ 1000; omega))) scLa.nd rfl (by first | exact Or.inl rfl | exact Or.inr rfl) ?_
  have htg : ∀ x ∈ fixD ++ ms.map (fun i => PyData.int (i % 1000000000000)), Tg x := fun x hx => by
    rcases List.mem_append.mp hx with h | h
    · exact fix_tg x h
    · obtain ⟨i, _, rfl⟩ := List.mem_map.mp h
      refine tg_int ?_
      have h1 : (i % 1000000000000).natAbs < 2 ^ 40 := by
        have a1 := Int.emod_nonneg i (show (1000000000000 : Int) ≠ 0 by decide)
        have a2 := Int.emod_lt_of_pos i (show (0 : Int) < 1000000000000 by decide)
        omega
      by_cases h0 : (i % 1000000000000).natAbs = 0
      · rw [h0]; decide
      · have := (Nat.log2_lt h0).mpr h1
        omega
  refine ST.retP (r' := Bb true) (EV.eq (cEqD hu (LCV.evf (own := [("_law_thing", 4)]) (LCV.filtMap (bs := fixD ++ ms.map (fun i => PyData.int (i % 1000000000000))) id id (fun _ => false) (IV.eqD (IV.lst (nm 2)) (by simp)) (fun x hx => ⟨_, fun _ _ _ _ _ => GV.name (i := 4) scLa.nd rfl (by first | exact Or.inl rfl | exact Or.inr rfl) (by simp), fun _ _ _ _ _ => TV.eq (TV.not (k := true) (TV.val (EV.callG C hgd hr (AV.cons (nm 4) AV.nil) ⟨x, rfl, htg x hx, rfl, rfl⟩))) rfl, fun _ _ _ _ _ => nm 4⟩) (by rw [List.length_append, List.length_map]; show 5 + ms.length ≤ 100000; omega)) rfl scLa.nd (blkOk_by (N := nLa) (sc := defScope sLaw) (by decide +kernel))).ev (EV.lst (ds := []) AV.nil) (by rw [filter_no]; decide +kernel) (by decide +kernel)) (by rw [filter_no]; rfl)) rfl
end
end J
/-! ZB: from what the top has written to facts of defs, methods, classes. -/
namespace J
open PySem PySem.Spec
open PyProof.Rows L2
section
variable {P : Program} {w : World} {K : PySem.W.Frag} {mg : Str → Option Value} {base h : Heap} {C : Addr}
theorem df_mk {n : Str} {st : Stmt} {f : Addr} {od an : Option Addr} {sl : Array (Option Value)} {oc kV dc pm cd ct : Value} (X : K.In h) (G : h.Ns mainGlobals mg) (a : PySem.W.nsIn K mainGlobals n = some (some (.ref f)))
    (l : K.lookup f = some ⟨oc, od, .func (PySem.W.fnOf n n (defArgs st) (defBody st) (defScope st) .none kV dc pm an cd ct), sl⟩) (c : PySem.W.codeIn K cd n = true) (k : PySem.W.keepIn K (.ref f) = true) : Df K mg n st := ⟨f, _, fun_mk l c k, PySem.W.mg_of X G a⟩
/-- a method by its name and its text -/
structure MFun (K : PySem.W.Frag) (C : Addr) (m qual : Str) (st : Stmt) : Prop where
  ex : ∃ f fd, Fun K m qual st f fd ∧ PySem.W.findIn K (.ref C) m = some (some (.ref f)) ∧ PySem.W.isFn K (.ref f) = true
theorem mf_mk {m qual : Str} {st : Stmt} {f : Addr} {od an : Option Addr} {sl : Array (Option Value)} {oc kV dc pm cd ct : Value} (a : PySem.W.findIn K (.ref C) m = some (some (.ref f))) (i : PySem.W.isFn K (.ref f) = true)
    (l : K.lookup f = some ⟨oc, od, .func (PySem.W.fnOf m qual (defArgs st) (defBody st) (defScope st) .none kV dc pm an cd ct), sl⟩) (c : PySem.W.codeIn K cd qual = true) (k : PySem.W.keepIn K (.ref f) = true) : MFun K C m qual st := ⟨f, _, fun_mk l c k, a, i⟩
/-- a property by its name and its getter's text -/
structure PFun (K : PySem.W.Frag) (C : Addr) (m qual : Str) (st : Stmt) : Prop where
  ex : ∃ p f fd, Fun K m qual st f fd ∧ PropOf K C m p f
theorem pf_mk {m qual : Str} {st : Stmt} {p f : Addr} {rest : List Value} {od an : Option Addr} {sl : Array (Option Value)} {oc kV dc pm cd ct : Value} (a : PySem.W.findIn K (.ref C) m = some (some (.ref p))) (g : PySem.W.specialIn K (.ref p) "__get__" = some (some (.builtin "property.__get__"))) (t : PySem.W.takesIn K (.ref p) = some true) (r : PySem.W.recIn K p "property" = some (.ref f :: rest))
    (l : K.lookup f = some ⟨oc, od, .func (PySem.W.fnOf m qual (defArgs st) (defBody st) (defScope st) .none kV dc pm an cd ct), sl⟩) (c : PySem.W.codeIn K cd qual = true) (k : PySem.W.keepIn K (.ref f) = true) : PFun K C m qual st := ⟨p, f, _, fun_mk l c k, a, g, t, rest, r⟩
/-- a classmethod -/
structure CFun (K : PySem.W.Frag) (C : Addr) (m qual : Str) (st : Stmt) : Prop where
  ex : ∃ mc p g fd, ClX.CRead K C mc ∧ ClX.CMet K C mc m p g ∧ Fun K m qual st g fd
theorem cf_mk {m qual : Str} {st : Stmt} {mc : Value} {p g : Addr} {rest : List Value} {od an : Option Addr} {sl : Array (Option Value)} {oc kV dc pm cd ct : Value} (rd : PySem.W.readsIn K C mc = true) (ga : PySem.W.specialIn K (.ref C) "__getattribute__" = some (some (.builtin "type.__getattribute__"))) (at_ : PySem.W.findCls K (.ref C) mc m = some (.get (.builtin "classmethod.__get__") (.ref p) .none (.ref C)))
    (rc : PySem.W.recIn K p "classmethod" = some (.ref g :: rest)) (fi : PySem.W.fnIn K g = true) (l : K.lookup g = some ⟨oc, od, .func (PySem.W.fnOf m qual (defArgs st) (defBody st) (defScope st) .none kV dc pm an cd ct), sl⟩) (c : PySem.W.codeIn K cd qual = true) (k : PySem.W.keepIn K (.ref g) = true) : CFun K C m qual st := ⟨mc, p, g, _, ⟨rd, ga⟩, ⟨at_, ⟨rest, rc⟩, fi⟩, fun_mk l c k⟩
theorem gl_of {n : Str} {v : Value} (X : K.In h) (G : h.Ns mainGlobals mg) (e : PySem.W.nsIn K mainGlobals n = some (some v)) : mg n = some v := PySem.W.mg_of X G e
theorem no_of {n : Str} (X : K.In h) (G : h.Ns mainGlobals mg) (e : PySem.W.nsIn K mainGlobals n = some none) : mg n = none := PySem.W.mg_none_of X G e
theorem gx_of {n : Str} {v : Tok → Value} {t : Tok} (X : K.In h) (G : h.Ns mainGlobals mg) (e : PySem.W.nsIn K mainGlobals n = some (some (v t))) : ∃ t, mg n = some (v t) := ⟨t, PySem.W.mg_of X G e⟩
end
theorem kit_of {K : PySem.W.Frag} {C : Addr} {t : Value} {b : Bool} (hd : PySem.W.hasDictIn K C = true) (ht : PySem.W.typeIn K (.ref C) = some (.type "type")) (hn : (t == .ref C) = false) (hs : PySem.W.subIn K t (.ref C) = some b) : PySem.W.kitOne K t (.ref C) = some b := by
  obtain ⟨cd, hc, _⟩ := PySem.W.any_some hd
  unfold PySem.W.kitOne PySem.W.kitCls
  rw [hn, if_neg Bool.false_ne_true]
  show (if ((PySem.W.clsIn K C).isSome && PySem.W.typeIn K (.ref C) == some (.type "type")) = true then PySem.W.subIn K t (.ref C) else none) = some b
  have e : ((PySem.W.clsIn K C).isSome && PySem.W.typeIn K (.ref C) == some (.type "type")) = true := by rw [hc, ht]; rfl
  rw [if_pos e]
  exact hs
end J
/-! ZX: from what the top has written to the facts of the twelve errors. -/
namespace J
open PySem PySem.Spec
open PyProof.Rows L2
def owN : List String := ["ValueError", "LookupError", "ArithmeticError", "KeyError", "IndexError", "ZeroDivisionError"]
def er1Ok (K : PySem.W.Frag) (D : Addr) (n : Nat) (fs : List Str) (Ds Us : List Addr) : Bool :=
  (List.range 12).all (fun j => decide (PySem.W.kitOne K (.ref D) (.ref (Ds.getD j 0)) = some (j == n))) &&
  ((List.range 3).all (fun j => decide (PySem.W.kitOne K (.ref D) (.ref (Us.getD j 0)) = some (sort3 n j))) &&
  ((List.range 6).all (fun j => decide (PySem.W.kitOne K (.ref D) (.type (owN.getD j "")) = some (sort9 n (j + 3)))) &&
  (xfB K D && (decide (PySem.W.findIn K (.ref D) "__class__" = some (some (.builtin "object.__class__"))) && (decide (PySem.W.specialIn K (.builtin "object.__class__") "__get__" = some (some (.builtin "getset_descriptor.__get__"))) &&
  (decide (PySem.W.takesIn K (.builtin "object.__class__") = some true) && (decide (PySem.W.mroIn K D (.type "object") = some true) && fs.all fun f => decide (PySem.W.findIn K (.ref D) f = some none))))))))
section
variable {K : PySem.W.Frag} {h : Heap} {mg : Str → Option Value} {D : Addr} {n : Nat} {fs : List Str} {Ds Us : List Addr}
structure Er1 (K : PySem.W.Frag) (D : Addr) (n : Nat) (fs : List Str) (Ds Us : List Addr) : Prop where
  c : ExcC K D
  xf : XfC K D
  no : ∀ f ∈ fs, PySem.W.findIn K (.ref D) f = some none
  k12 : ∀ j, j < 12 → PySem.W.kitOne K (.ref D) (.ref (Ds.getD j 0)) = some (j == n)
  k3 : ∀ j, j < 3 → PySem.W.kitOne K (.ref D) (.ref (Us.getD j 0)) = some (sort3 n j)
  k6 : ∀ j, j < 6 → PySem.W.kitOne K (.ref D) (.type (owN.getD j "")) = some (sort9 n (j + 3))
theorem er1_of (e : er1Ok K D n fs Ds Us = true) : Er1 K D n fs Ds Us := by
  unfold er1Ok at e
  simp only [Bool.and_eq_true, decide_eq_true_eq] at e
  obtain ⟨e1, e2, e3, e4, e5, e6, e7, e8, e9⟩ := e
  have xc := xfB_ok e4
  exact ⟨⟨xc.ga, xc.gg, xc.exC, xc.hdC, e5, e6, e7, e8⟩, xc, fun f hf => of_decide_eq_true (List.all_eq_true.mp e9 f hf), fun j hj => of_decide_eq_true (List.all_eq_true.mp e1 j (List.mem_range.mpr hj)), fun j hj => of_decide_eq_true (List.all_eq_true.mp e2 j (List.mem_range.mpr hj)), fun j hj => of_decide_eq_true (List.all_eq_true.mp e3 j (List.mem_range.mpr hj))⟩
end
section
variable {w : World} {P : Program} {K : PySem.W.Frag} {base : Heap} {mg : Str → Option Value} {D fI : Addr} {fd : FuncData} {nm q n f : Str} {B mk : String} {N : Addr} {bs bm : List Value} {sn : List Str} {sub : List Value} {ab : Bool} {col : Option Bool} {dd : Option Addr} {k0 k1 k2 k3 k5 : Option Value} {st : Stmt} {qual : Str} {p1 p2 p3 p4 p5 p6 pos pos2 : Pos}
theorem excV_of (exC : PySem.W.subIn K (.ref D) (.type "BaseException") = some true) (no : PySem.W.findIn K (.ref D) f = some none) (at_ : mg n = some (.ref D)) (lk : K.lookup D = some (excClassObj nm q D N bs bm true sn sub ab col dd k0 k1 k2 k3 k5 mk)) (hB : (B = "ValueError" ∧ mk = "ValueError.__new__") ∨ (B = "LookupError" ∧ mk = "LookupError.__new__") ∨ (B = "ArithmeticError" ∧ mk = "ArithmeticError.__new__")) (hr : OG.ownLine B bm = true) (sa : PySem.W.findIn K (.ref D) "__setattr__" = some (some (.builtin "object.__setattr__")))
    (ty : PySem.W.typeIn K (.ref D) = some (.type "type")) (kC : PySem.W.keepIn K (.ref D) = true) (iC : PySem.W.findIn K (.ref D) "__init__" = some (some (.ref fI))) (tI : PySem.W.typeIn K (.ref fI) = some (.type "function")) (F : Fun K "__init__" qual st fI fd) (Sc : FnScope ["self", f] ["self", f] (defScope st))
    (hb : defBody st = [.Assign [.Attribute (.Name "self" p1) f p2] (.Name f p3) pos]) (hv : Vis (defScope st) f) (hv0 : Vis (defScope st) "self") (hbi : ∀ (kV doc pm : Value) (an : Option Addr) (cdv ct : Value) (us : List Value), us.length = 2 → bindArgs (PySem.W.fnOf "__init__" qual (defArgs st) (defBody st) (defScope st) .none kV doc pm an cdv ct) ⟨us, []⟩ = pure (([("self" : Str), f]).zip us))
    (hbk : ∀ (kV doc pm : Value) (an : Option Addr) (cdv ct : Value) (us ws : List Value), us.length = 1 → ws.length = [f].length → bindArgs (PySem.W.fnOf "__init__" qual (defArgs st) (defBody st) (defScope st) .none kV doc pm an cdv ct) ⟨us, [f].zip ws⟩ = pure (([("self" : Str), f]).zip (us ++ ws))) (hd : (f == ("__debug__" : Str)) = false) (hcd : (f == ("__classdict__" : Str)) = false) : ExcV P w K mg base n D f := by
  obtain ⟨U, ob⟩ := OG.under_of hB hr
  have oe : OexG K D := ⟨⟨nm, q, N, bs, bm, sn, sub, ab, col, dd, k0, k1, k2, k3, k5, mk, lk, U, ob⟩, sa, exC, ty, kC⟩
  have Fn := okXG (P := P) (w := w) (mg := mg) (base := base) F Sc oe no hb hv hv0 hd hcd
  exact ⟨⟨oe, at_, no, fI, fd, iC, tI, Fn, F.binds hbi⟩, fI, fd, iC, tI, Fn, kbn F hbk⟩
theorem okXB (F : Fun K "__init__" qual st fI fd) (Sc : FnScope ["self", "index", "shown"] ["self", "index", "shown"] (defScope st)) (oe : OexG K D) (noI : PySem.W.findIn K (.ref D) (Str.ofString "index") = some none) (noS : PySem.W.findIn K (.ref D) (Str.ofString "shown") = some none) (hb : defBody st = [.Assign [.Attribute (.Name "self" p1) "index" p2] (.Name "index" p3) pos, .Assign [.Attribute (.Name "self" p4) "shown" p5] (.Name "shown" p6) pos2])
    (hv : Vis (defScope st) "index") (hvs : Vis (defScope st) "shown") (hv0 : Vis (defScope st) "self") : FnOk P w K mg base CX0 1 fI fd ["self", "index", "shown"] (spXB D) := by
  refine F.ok Sc (fun vs H Q E h => ?_) (fun cdv A outer s H vs Q E hr h => ?_)
  · obtain ⟨a, v, u, rfl, _⟩ := h
    rfl
  · obtain ⟨a, v, u, rfl, ha, q⟩ := h
    rw [hb]
    refine ⟨_, pss_cons (ps_osG (pe_var (i := 0) rfl hv0) (pe_var (i := 1) rfl hv)) (pss_one (ps_osG (pe_var (i := 0) rfl hv0) (pe_var (i := 2) rfl hvs))), ?_⟩
    exact ⟨v, rfl, .ref a, rfl, a, D, rfl, oe, noI, .inl ⟨ha, fun dx hd hne => ⟨u, rfl, .ref a, rfl, a, D, rfl, oe, noS, .inr ⟨dx, [(Str.ofString "index", v)], upd_same, by rw [upd_ne hne, upd_same], by simp, q dx hd hne⟩⟩⟩⟩
theorem excB_of (exC : PySem.W.subIn K (.ref D) (.type "BaseException") = some true) (noI : PySem.W.findIn K (.ref D) (Str.ofString "index") = some none) (noS : PySem.W.findIn K (.ref D) (Str.ofString "shown") = some none) (at_ : mg n = some (.ref D)) (lk : K.lookup D = some (excClassObj nm q D N bs bm true sn sub ab col dd k0 k1 k2 k3 k5 "ArithmeticError.__new__")) (hr : OG.ownLine "ArithmeticError" bm = true) (sa : PySem.W.findIn K (.ref D) "__setattr__" = some (some (.builtin "object.__setattr__")))
    (ty : PySem.W.typeIn K (.ref D) = some (.type "type")) (kC : PySem.W.keepIn K (.ref D) = true) (iC : PySem.W.findIn K (.ref D) "__init__" = some (some (.ref fI))) (tI : PySem.W.typeIn K (.ref fI) = some (.type "function")) (F : Fun K "__init__" qual st fI fd) (Sc : FnScope ["self", "index", "shown"] ["self", "index", "shown"] (defScope st))
    (hb : defBody st = [.Assign [.Attribute (.Name "self" p1) "index" p2] (.Name "index" p3) pos, .Assign [.Attribute (.Name "self" p4) "shown" p5] (.Name "shown" p6) pos2]) (hv : Vis (defScope st) "index") (hvs : Vis (defScope st) "shown") (hv0 : Vis (defScope st) "self")
    (hbi : ∀ (kV doc pm : Value) (an : Option Addr) (cdv ct : Value) (us : List Value), us.length = 3 → bindArgs (PySem.W.fnOf "__init__" qual (defArgs st) (defBody st) (defScope st) .none kV doc pm an cdv ct) ⟨us, []⟩ = pure (([("self" : Str), "index", "shown"]).zip us))
    (hbk : ∀ (kV doc pm : Value) (an : Option Addr) (cdv ct : Value) (u x y : Value), bindArgs (PySem.W.fnOf "__init__" qual (defArgs st) (defBody st) (defScope st) .none kV doc pm an cdv ct) ⟨[u], [(("shown" : Str), x), ("index", y)]⟩ = pure [(("self" : Str), u), ("index", y), ("shown", x)]) : ExcB P w K mg base n D := by
  obtain ⟨U, ob⟩ := OG.under_of (B := "ArithmeticError") (.inr (.inr ⟨rfl, rfl⟩)) hr
  have oe : OexG K D := ⟨⟨nm, q, N, bs, bm, sn, sub, ab, col, dd, k0, k1, k2, k3, k5, _, lk, U, ob⟩, sa, exC, ty, kC⟩
  have Fn := okXB (P := P) (w := w) (mg := mg) (base := base) F Sc oe noI noS hb hv hvs hv0
  refine ⟨oe, at_, fI, fd, iC, tI, Fn, F.binds hbi, ?_⟩
  obtain ⟨oc, od, kV, doc, pm, an, cdv, ct, osl, rfl, lk2, hcd⟩ := F.ex
  refine ⟨fun s us ws _ l1 l2 => ?_, fun r1 r2 => ?_⟩
  · match us, ws, l1, l2 with
    | [u], [x, y], _, _ => exact .of_eq (hbk kV doc pm an cdv ct u x y)
  · cases r2 with
    | nil => exact r1.append .nil
    | cons a r2 =>
      cases r2 with
      | nil => exact r1.append (.cons a .nil)
      | cons b r2 =>
        cases r2 with
        | nil => exact r1.append (.cons b (.cons a .nil))
        | cons c r2 => exact r1.append (.cons a (.cons b (.cons c r2)))
theorem fi_mk {x qual : Str} {st : Stmt} {f : Addr} {od an : Option Addr} {sl : Array (Option Value)} {oc kV dc pm cd ct : Value}
    (l : K.lookup f = some ⟨oc, od, .func (PySem.W.fnOf x qual (defArgs st) (defBody st) (defScope st) .none kV dc pm an cd ct), sl⟩) (c : PySem.W.codeIn K cd qual = true) (k : PySem.W.keepIn K (.ref f) = true) : ∃ fd, Fun K x qual st f fd := ⟨_, fun_mk l c k⟩
end
end J
/-! E: the facts that the top has written, one by one; the law's promise. -/
namespace J
open PySem PySem.Spec
open PyProof.Rows L2
theorem scI0 : FnScope ["self", "given"] ["self", "given"] (defScope sInvalidTextInit) := ⟨rfl, rfl, rfl, by decide +kernel, rfl, by decide +kernel, by decide +kernel⟩
theorem scI1 : FnScope ["self", "given"] ["self", "given"] (defScope sInvalidCountInit) := ⟨rfl, rfl, rfl, by decide +kernel, rfl, by decide +kernel, by decide +kernel⟩
theorem scI2 : FnScope ["self", "given"] ["self", "given"] (defScope sInvalidPlaceInit) := ⟨rfl, rfl, rfl, by decide +kernel, rfl, by decide +kernel, by decide +kernel⟩
theorem scI3 : FnScope ["self", "given"] ["self", "given"] (defScope sInvalidClaimInit) := ⟨rfl, rfl, rfl, by decide +kernel, rfl, by decide +kernel, by decide +kernel⟩
theorem scI4 : FnScope ["self", "given"] ["self", "given"] (defScope sNotABookInit) := ⟨rfl, rfl, rfl, by decide +kernel, rfl, by decide +kernel, by decide +kernel⟩
theorem scI5 : FnScope ["self", "index"] ["self", "index"] (defScope sInvalidPlansInit) := ⟨rfl, rfl, rfl, by decide +kernel, rfl, by decide +kernel, by decide +kernel⟩
theorem scI6 : FnScope ["self", "index"] ["self", "index"] (defScope sInvalidPiecesInit) := ⟨rfl, rfl, rfl, by decide +kernel, rfl, by decide +kernel, by decide +kernel⟩
theorem scI7 : FnScope ["self", "given"] ["self", "given"] (defScope sUnknownPlanInit) := ⟨rfl, rfl, rfl, by decide +kernel, rfl, by decide +kernel, by decide +kernel⟩
theorem scI8 : FnScope ["self", "most"] ["self", "most"] (defScope sTooLongInit) := ⟨rfl, rfl, rfl, by decide +kernel, rfl, by decide +kernel, by decide +kernel⟩
theorem scI11 : FnScope ["self", "index", "shown"] ["self", "index", "shown"] (defScope sBrokenInit) := ⟨rfl, rfl, rfl, by decide +kernel, rfl, by decide +kernel, by decide +kernel⟩
theorem end_of {P : Program} {w : World} {K : PySem.W.Frag} {h : Heap} {mg : Str → Option Value} {fa U0 U1 U2 D0 D1 D2 D3 D4 D5 D6 D7 D8 D9 D10 D11 fI0 fI1 fI2 fI3 fI4 fI5 fI6 fI7 fI8 fI11 : Addr}
    {nm0 qn0 : Str} {N0 : Addr} {bs0 bm0 : List Value} {sn0 : List Str} {sub0 : List Value} {ab0 : Bool} {col0 : Option Bool} {dd0 : Option Addr} {ka0 kb0 kc0 kd0 ke0 : Option Value}
    {nm1 qn1 : Str} {N1 : Addr} {bs1 bm1 : List Value} {sn1 : List Str} {sub1 : List Value} {ab1 : Bool} {col1 : Option Bool} {dd1 : Option Addr} {ka1 kb1 kc1 kd1 ke1 : Option Value}
    {nm2 qn2 : Str} {N2 : Addr} {bs2 bm2 : List Value} {sn2 : List Str} {sub2 : List Value} {ab2 : Bool} {col2 : Option Bool} {dd2 : Option Addr} {ka2 kb2 kc2 kd2 ke2 : Option Value}
    {nm3 qn3 : Str} {N3 : Addr} {bs3 bm3 : List Value} {sn3 : List Str} {sub3 : List Value} {ab3 : Bool} {col3 : Option Bool} {dd3 : Option Addr} {ka3 kb3 kc3 kd3 ke3 : Option Value}
    {nm4 qn4 : Str} {N4 : Addr} {bs4 bm4 : List Value} {sn4 : List Str} {sub4 : List Value} {ab4 : Bool} {col4 : Option Bool} {dd4 : Option Addr} {ka4 kb4 kc4 kd4 ke4 : Option Value}
    {nm5 qn5 : Str} {N5 : Addr} {bs5 bm5 : List Value} {sn5 : List Str} {sub5 : List Value} {ab5 : Bool} {col5 : Option Bool} {dd5 : Option Addr} {ka5 kb5 kc5 kd5 ke5 : Option Value}
    {nm6 qn6 : Str} {N6 : Addr} {bs6 bm6 : List Value} {sn6 : List Str} {sub6 : List Value} {ab6 : Bool} {col6 : Option Bool} {dd6 : Option Addr} {ka6 kb6 kc6 kd6 ke6 : Option Value}
    {nm7 qn7 : Str} {N7 : Addr} {bs7 bm7 : List Value} {sn7 : List Str} {sub7 : List Value} {ab7 : Bool} {col7 : Option Bool} {dd7 : Option Addr} {ka7 kb7 kc7 kd7 ke7 : Option Value}
    {nm8 qn8 : Str} {N8 : Addr} {bs8 bm8 : List Value} {sn8 : List Str} {sub8 : List Value} {ab8 : Bool} {col8 : Option Bool} {dd8 : Option Addr} {ka8 kb8 kc8 kd8 ke8 : Option Value}
    {nm11 qn11 : Str} {N11 : Addr} {bs11 bm11 : List Value} {sn11 : List Str} {sub11 : List Value} {ab11 : Bool} {col11 : Option Bool} {dd11 : Option Addr} {ka11 kb11 kc11 kd11 ke11 : Option Value}
    (X : K.In h) (G : h.Ns mainGlobals mg) (hfa : mg "law" = some (.ref fa)) (aU0 : PySem.W.nsIn K mainGlobals "NotRight" = some (some (.ref U0))) (aU1 : PySem.W.nsIn K mainGlobals "NotThere" = some (some (.ref U1))) (aU2 : PySem.W.nsIn K mainGlobals "CannotBe" = some (some (.ref U2)))
    (aD0 : PySem.W.nsIn K mainGlobals "InvalidText" = some (some (.ref D0))) (ok0 : er1Ok K D0 0 ["given"] [D0, D1, D2, D3, D4, D5, D6, D7, D8, D9, D10, D11] [U0, U1, U2] = true) (ty0 : PySem.W.typeIn K (.ref D0) = some (.type "type")) (kp0 : PySem.W.keepIn K (.ref D0) = true)
    (ox0 : K.lookup D0 = some (excClassObj nm0 qn0 D0 N0 bs0 bm0 true sn0 sub0 ab0 col0 dd0 ka0 kb0 kc0 kd0 ke0 "ValueError.__new__")) (rv0 : OG.ownLine "ValueError" bm0 = true) (ts0 : PySem.W.findIn K (.ref D0) "__setattr__" = some (some (.builtin "object.__setattr__")))
    (iC0 : PySem.W.findIn K (.ref D0) "__init__" = some (some (.ref fI0))) (tI0 : PySem.W.typeIn K (.ref fI0) = some (.type "function")) (FI0 : ∃ fd, Fun K "__init__" "InvalidText.__init__" sInvalidTextInit fI0 fd)
    (aD1 : PySem.W.nsIn K mainGlobals "InvalidCount" = some (some (.ref D1))) (ok1 : er1Ok K D1 1 ["given"] [D0, D1, D2, D3, D4, D5, D6, D7, D8, D9, D10, D11] [U0, U1, U2] = true) (ty1 : PySem.W.typeIn K (.ref D1) = some (.type "type")) (kp1 : PySem.W.keepIn K (.ref D1) = true)
    (ox1 : K.lookup D1 = some (excClassObj nm1 qn1 D1 N1 bs1 bm1 true sn1 sub1 ab1 col1 dd1 ka1 kb1 kc1 kd1 ke1 "ValueError.__new__")) (rv1 : OG.ownLine "ValueError" bm1 = true) (ts1 : PySem.W.findIn K (.ref D1) "__setattr__" = some (some (.builtin "object.__setattr__")))
    (iC1 : PySem.W.findIn K (.ref D1) "__init__" = some (some (.ref fI1))) (tI1 : PySem.W.typeIn K (.ref fI1) = some (.type "function")) (FI1 : ∃ fd, Fun K "__init__" "InvalidCount.__init__" sInvalidCountInit fI1 fd)
    (aD2 : PySem.W.nsIn K mainGlobals "InvalidPlace" = some (some (.ref D2))) (ok2 : er1Ok K D2 2 ["given"] [D0, D1, D2, D3, D4, D5, D6, D7, D8, D9, D10, D11] [U0, U1, U2] = true) (ty2 : PySem.W.typeIn K (.ref D2) = some (.type "type")) (kp2 : PySem.W.keepIn K (.ref D2) = true)
    (ox2 : K.lookup D2 = some (excClassObj nm2 qn2 D2 N2 bs2 bm2 true sn2 sub2 ab2 col2 dd2 ka2 kb2 kc2 kd2 ke2 "ValueError.__new__")) (rv2 : OG.ownLine "ValueError" bm2 = true) (ts2 : PySem.W.findIn K (.ref D2) "__setattr__" = some (some (.builtin "object.__setattr__")))
    (iC2 : PySem.W.findIn K (.ref D2) "__init__" = some (some (.ref fI2))) (tI2 : PySem.W.typeIn K (.ref fI2) = some (.type "function")) (FI2 : ∃ fd, Fun K "__init__" "InvalidPlace.__init__" sInvalidPlaceInit fI2 fd)
    (aD3 : PySem.W.nsIn K mainGlobals "InvalidClaim" = some (some (.ref D3))) (ok3 : er1Ok K D3 3 ["given"] [D0, D1, D2, D3, D4, D5, D6, D7, D8, D9, D10, D11] [U0, U1, U2] = true) (ty3 : PySem.W.typeIn K (.ref D3) = some (.type "type")) (kp3 : PySem.W.keepIn K (.ref D3) = true)
    (ox3 : K.lookup D3 = some (excClassObj nm3 qn3 D3 N3 bs3 bm3 true sn3 sub3 ab3 col3 dd3 ka3 kb3 kc3 kd3 ke3 "ValueError.__new__")) (rv3 : OG.ownLine "ValueError" bm3 = true) (ts3 : PySem.W.findIn K (.ref D3) "__setattr__" = some (some (.builtin "object.__setattr__")))
    (iC3 : PySem.W.findIn K (.ref D3) "__init__" = some (some (.ref fI3))) (tI3 : PySem.W.typeIn K (.ref fI3) = some (.type "function")) (FI3 : ∃ fd, Fun K "__init__" "InvalidClaim.__init__" sInvalidClaimInit fI3 fd)
    (aD4 : PySem.W.nsIn K mainGlobals "NotABook" = some (some (.ref D4))) (ok4 : er1Ok K D4 4 ["given"] [D0, D1, D2, D3, D4, D5, D6, D7, D8, D9, D10, D11] [U0, U1, U2] = true) (ty4 : PySem.W.typeIn K (.ref D4) = some (.type "type")) (kp4 : PySem.W.keepIn K (.ref D4) = true)
    (ox4 : K.lookup D4 = some (excClassObj nm4 qn4 D4 N4 bs4 bm4 true sn4 sub4 ab4 col4 dd4 ka4 kb4 kc4 kd4 ke4 "ValueError.__new__")) (rv4 : OG.ownLine "ValueError" bm4 = true) (ts4 : PySem.W.findIn K (.ref D4) "__setattr__" = some (some (.builtin "object.__setattr__")))
    (iC4 : PySem.W.findIn K (.ref D4) "__init__" = some (some (.ref fI4))) (tI4 : PySem.W.typeIn K (.ref fI4) = some (.type "function")) (FI4 : ∃ fd, Fun K "__init__" "NotABook.__init__" sNotABookInit fI4 fd)
    (aD5 : PySem.W.nsIn K mainGlobals "InvalidPlans" = some (some (.ref D5))) (ok5 : er1Ok K D5 5 ["index"] [D0, D1, D2, D3, D4, D5, D6, D7, D8, D9, D10, D11] [U0, U1, U2] = true) (ty5 : PySem.W.typeIn K (.ref D5) = some (.type "type")) (kp5 : PySem.W.keepIn K (.ref D5) = true)
    (ox5 : K.lookup D5 = some (excClassObj nm5 qn5 D5 N5 bs5 bm5 true sn5 sub5 ab5 col5 dd5 ka5 kb5 kc5 kd5 ke5 "ValueError.__new__")) (rv5 : OG.ownLine "ValueError" bm5 = true) (ts5 : PySem.W.findIn K (.ref D5) "__setattr__" = some (some (.builtin "object.__setattr__")))
    (iC5 : PySem.W.findIn K (.ref D5) "__init__" = some (some (.ref fI5))) (tI5 : PySem.W.typeIn K (.ref fI5) = some (.type "function")) (FI5 : ∃ fd, Fun K "__init__" "InvalidPlans.__init__" sInvalidPlansInit fI5 fd)
    (aD6 : PySem.W.nsIn K mainGlobals "InvalidPieces" = some (some (.ref D6))) (ok6 : er1Ok K D6 6 ["index"] [D0, D1, D2, D3, D4, D5, D6, D7, D8, D9, D10, D11] [U0, U1, U2] = true) (ty6 : PySem.W.typeIn K (.ref D6) = some (.type "type")) (kp6 : PySem.W.keepIn K (.ref D6) = true)
    (ox6 : K.lookup D6 = some (excClassObj nm6 qn6 D6 N6 bs6 bm6 true sn6 sub6 ab6 col6 dd6 ka6 kb6 kc6 kd6 ke6 "ValueError.__new__")) (rv6 : OG.ownLine "ValueError" bm6 = true) (ts6 : PySem.W.findIn K (.ref D6) "__setattr__" = some (some (.builtin "object.__setattr__")))
    (iC6 : PySem.W.findIn K (.ref D6) "__init__" = some (some (.ref fI6))) (tI6 : PySem.W.typeIn K (.ref fI6) = some (.type "function")) (FI6 : ∃ fd, Fun K "__init__" "InvalidPieces.__init__" sInvalidPiecesInit fI6 fd)
    (aD7 : PySem.W.nsIn K mainGlobals "UnknownPlan" = some (some (.ref D7))) (ok7 : er1Ok K D7 7 ["given"] [D0, D1, D2, D3, D4, D5, D6, D7, D8, D9, D10, D11] [U0, U1, U2] = true) (ty7 : PySem.W.typeIn K (.ref D7) = some (.type "type")) (kp7 : PySem.W.keepIn K (.ref D7) = true)
    (ox7 : K.lookup D7 = some (excClassObj nm7 qn7 D7 N7 bs7 bm7 true sn7 sub7 ab7 col7 dd7 ka7 kb7 kc7 kd7 ke7 "LookupError.__new__")) (rv7 : OG.ownLine "LookupError" bm7 = true) (ts7 : PySem.W.findIn K (.ref D7) "__setattr__" = some (some (.builtin "object.__setattr__")))
    (iC7 : PySem.W.findIn K (.ref D7) "__init__" = some (some (.ref fI7))) (tI7 : PySem.W.typeIn K (.ref fI7) = some (.type "function")) (FI7 : ∃ fd, Fun K "__init__" "UnknownPlan.__init__" sUnknownPlanInit fI7 fd)
    (aD8 : PySem.W.nsIn K mainGlobals "TooLong" = some (some (.ref D8))) (ok8 : er1Ok K D8 8 ["most"] [D0, D1, D2, D3, D4, D5, D6, D7, D8, D9, D10, D11] [U0, U1, U2] = true) (ty8 : PySem.W.typeIn K (.ref D8) = some (.type "type")) (kp8 : PySem.W.keepIn K (.ref D8) = true)
    (ox8 : K.lookup D8 = some (excClassObj nm8 qn8 D8 N8 bs8 bm8 true sn8 sub8 ab8 col8 dd8 ka8 kb8 kc8 kd8 ke8 "ArithmeticError.__new__")) (rv8 : OG.ownLine "ArithmeticError" bm8 = true) (ts8 : PySem.W.findIn K (.ref D8) "__setattr__" = some (some (.builtin "object.__setattr__")))
    (iC8 : PySem.W.findIn K (.ref D8) "__init__" = some (some (.ref fI8))) (tI8 : PySem.W.typeIn K (.ref fI8) = some (.type "function")) (FI8 : ∃ fd, Fun K "__init__" "TooLong.__init__" sTooLongInit fI8 fd)
    (aD9 : PySem.W.nsIn K mainGlobals "IsOver" = some (some (.ref D9))) (ok9 : er1Ok K D9 9 [] [D0, D1, D2, D3, D4, D5, D6, D7, D8, D9, D10, D11] [U0, U1, U2] = true) (ty9 : PySem.W.typeIn K (.ref D9) = some (.type "type")) (kp9 : PySem.W.keepIn K (.ref D9) = true)
    (xi9 : PySem.W.excIn K D9 (OG.lineOf "ArithmeticError") "ArithmeticError.__new__" = true)
    (aD10 : PySem.W.nsIn K mainGlobals "NothingToUndo" = some (some (.ref D10))) (ok10 : er1Ok K D10 10 [] [D0, D1, D2, D3, D4, D5, D6, D7, D8, D9, D10, D11] [U0, U1, U2] = true) (ty10 : PySem.W.typeIn K (.ref D10) = some (.type "type")) (kp10 : PySem.W.keepIn K (.ref D10) = true)
    (xi10 : PySem.W.excIn K D10 (OG.lineOf "ArithmeticError") "ArithmeticError.__new__" = true)
    (aD11 : PySem.W.nsIn K mainGlobals "Broken" = some (some (.ref D11))) (ok11 : er1Ok K D11 11 ["index", "shown"] [D0, D1, D2, D3, D4, D5, D6, D7, D8, D9, D10, D11] [U0, U1, U2] = true) (ty11 : PySem.W.typeIn K (.ref D11) = some (.type "type")) (kp11 : PySem.W.keepIn K (.ref D11) = true)
    (ox11 : K.lookup D11 = some (excClassObj nm11 qn11 D11 N11 bs11 bm11 true sn11 sub11 ab11 col11 dd11 ka11 kb11 kc11 kd11 ke11 "ArithmeticError.__new__")) (rv11 : OG.ownLine "ArithmeticError" bm11 = true) (ts11 : PySem.W.findIn K (.ref D11) "__setattr__" = some (some (.builtin "object.__setattr__")))
    (iC11 : PySem.W.findIn K (.ref D11) "__init__" = some (some (.ref fI11))) (tI11 : PySem.W.typeIn K (.ref fI11) = some (.type "function")) (FI11 : ∃ fd, Fun K "__init__" "Broken.__init__" sBrokenInit fI11 fd)
    (em0 : PySem.W.exmOne K (.ref D0) (.ref U0) = some true) (em7 : PySem.W.exmOne K (.ref D7) (.ref U1) = some true) (em11 : PySem.W.exmOne K (.ref D11) (.ref U2) = some true)
    (o0 : mg "ValueError" = none) (o1 : mg "LookupError" = none) (o2 : mg "ArithmeticError" = none) (o3 : mg "KeyError" = none) (o4 : mg "IndexError" = none) (o5 : mg "ZeroDivisionError" = none)
    (T : Bt mg) (M : Lim mg)
    (d_law_sorts : Df K mg "_law_sorts" sLSorts)
    (d_law_bases : Df K mg "_law_bases" sLBases)
    (d_law_due : Df K mg "_law_due" sLDue)
    (d_law_given : Df K mg "_law_given" sLGiven)
    (d_law_kept_right : Df K mg "_law_kept_right" sLKeptRight)
    (d_law_raised_right : Df K mg "_law_raised_right" sLRaisedRight)
    (d_law_right : Df K mg "_law_right" sLRight)
    (d_law : Df K mg "law" sLaw)
    : ∃ fd : FuncData, (∀ (t : Shared) (u : Value), BindsTo t fd ⟨[u], []⟩ [("_law_cells", u)]) ∧ ∀ bs : Heap, K.In bs → bs.Ns mainGlobals mg → FnG P w K mg bs 5 fa fd ["_law_cells"] (spLawT K) := by
  obtain ⟨f, fd, F, hm⟩ := d_law.ex
  have e := hfa.symm.trans hm
  cases e
  refine ⟨fd, ?_, fun bs inB nsB => ?_⟩
  · obtain ⟨oc, od, kV, doc, pm, an, cdv, ct, osl, rfl, lk, hcd⟩ := F.ex
    exact fun t u => .of_eq rfl
  · have E0 := er1_of ok0
    have E1 := er1_of ok1
    have E2 := er1_of ok2
    have E3 := er1_of ok3
    have E4 := er1_of ok4
    have E5 := er1_of ok5
    have E6 := er1_of ok6
    have E7 := er1_of ok7
    have E8 := er1_of ok8
    have E9 := er1_of ok9
    have E10 := er1_of ok10
    have E11 := er1_of ok11
    obtain ⟨fdI0, FI0⟩ := FI0
    have x0 : ExcV P w K mg bs "InvalidText" D0 "given" := excV_of E0.c.hs (E0.no _ (by simp)) (gl_of X G aD0) ox0 (.inl ⟨rfl, rfl⟩) rv0 ts0 ty0 kp0 iC0 tI0 FI0 scI0 rfl (Or.inl rfl) (Or.inl rfl) (fun _ _ _ _ _ _ us hl => match us, hl with | [_, _], _ => rfl) (fun _ _ _ _ _ _ us ws h1 h2 => match us, ws, h1, h2 with | [_], [_], _, _ => rfl) (by decide) (by decide)
    obtain ⟨fdI1, FI1⟩ := FI1
    have x1 : ExcV P w K mg bs "InvalidCount" D1 "given" := excV_of E1.c.hs (E1.no _ (by simp)) (gl_of X G aD1) ox1 (.inl ⟨rfl, rfl⟩) rv1 ts1 ty1 kp1 iC1 tI1 FI1 scI1 rfl (Or.inl rfl) (Or.inl rfl) (fun _ _ _ _ _ _ us hl => match us, hl with | [_, _], _ => rfl) (fun _ _ _ _ _ _ us ws h1 h2 => match us, ws, h1, h2 with | [_], [_], _, _ => rfl) (by decide) (by decide)
    obtain ⟨fdI2, FI2⟩ := FI2
    have x2 : ExcV P w K mg bs "InvalidPlace" D2 "given" := excV_of E2.c.hs (E2.no _ (by simp)) (gl_of X G aD2) ox2 (.inl ⟨rfl, rfl⟩) rv2 ts2 ty2 kp2 iC2 tI2 FI2 scI2 rfl (Or.inl rfl) (Or.inl rfl) (fun _ _ _ _ _ _ us hl => match us, hl with | [_, _], _ => rfl) (fun _ _ _ _ _ _ us ws h1 h2 => match us, ws, h1, h2 with | [_], [_], _, _ => rfl) (by decide) (by decide)
    obtain ⟨fdI3, FI3⟩ := FI3
    have x3 : ExcV P w K mg bs "InvalidClaim" D3 "given" := excV_of E3.c.hs (E3.no _ (by simp)) (gl_of X G aD3) ox3 (.inl ⟨rfl, rfl⟩) rv3 ts3 ty3 kp3 iC3 tI3 FI3 scI3 rfl (Or.inl rfl) (Or.inl rfl) (fun _ _ _ _ _ _ us hl => match us, hl with | [_, _], _ => rfl) (fun _ _ _ _ _ _ us ws h1 h2 => match us, ws, h1, h2 with | [_], [_], _, _ => rfl) (by decide) (by decide)
    obtain ⟨fdI4, FI4⟩ := FI4
    have x4 : ExcV P w K mg bs "NotABook" D4 "given" := excV_of E4.c.hs (E4.no _ (by simp)) (gl_of X G aD4) ox4 (.inl ⟨rfl, rfl⟩) rv4 ts4 ty4 kp4 iC4 tI4 FI4 scI4 rfl (Or.inl rfl) (Or.inl rfl) (fun _ _ _ _ _ _ us hl => match us, hl with | [_, _], _ => rfl) (fun _ _ _ _ _ _ us ws h1 h2 => match us, ws, h1, h2 with | [_], [_], _, _ => rfl) (by decide) (by decide)
    obtain ⟨fdI5, FI5⟩ := FI5
    have x5 : ExcV P w K mg bs "InvalidPlans" D5 "index" := excV_of E5.c.hs (E5.no _ (by simp)) (gl_of X G aD5) ox5 (.inl ⟨rfl, rfl⟩) rv5 ts5 ty5 kp5 iC5 tI5 FI5 scI5 rfl (Or.inl rfl) (Or.inl rfl) (fun _ _ _ _ _ _ us hl => match us, hl with | [_, _], _ => rfl) (fun _ _ _ _ _ _ us ws h1 h2 => match us, ws, h1, h2 with | [_], [_], _, _ => rfl) (by decide) (by decide)
    obtain ⟨fdI6, FI6⟩ := FI6
    have x6 : ExcV P w K mg bs "InvalidPieces" D6 "index" := excV_of E6.c.hs (E6.no _ (by simp)) (gl_of X G aD6) ox6 (.inl ⟨rfl, rfl⟩) rv6 ts6 ty6 kp6 iC6 tI6 FI6 scI6 rfl (Or.inl rfl) (Or.inl rfl) (fun _ _ _ _ _ _ us hl => match us, hl with | [_, _], _ => rfl) (fun _ _ _ _ _ _ us ws h1 h2 => match us, ws, h1, h2 with | [_], [_], _, _ => rfl) (by decide) (by decide)
    obtain ⟨fdI7, FI7⟩ := FI7
    have x7 : ExcV P w K mg bs "UnknownPlan" D7 "given" := excV_of E7.c.hs (E7.no _ (by simp)) (gl_of X G aD7) ox7 (.inr (.inl ⟨rfl, rfl⟩)) rv7 ts7 ty7 kp7 iC7 tI7 FI7 scI7 rfl (Or.inl rfl) (Or.inl rfl) (fun _ _ _ _ _ _ us hl => match us, hl with | [_, _], _ => rfl) (fun _ _ _ _ _ _ us ws h1 h2 => match us, ws, h1, h2 with | [_], [_], _, _ => rfl) (by decide) (by decide)
    obtain ⟨fdI8, FI8⟩ := FI8
    have x8 : ExcV P w K mg bs "TooLong" D8 "most" := excV_of E8.c.hs (E8.no _ (by simp)) (gl_of X G aD8) ox8 (.inr (.inr ⟨rfl, rfl⟩)) rv8 ts8 ty8 kp8 iC8 tI8 FI8 scI8 rfl (Or.inl rfl) (Or.inl rfl) (fun _ _ _ _ _ _ us hl => match us, hl with | [_, _], _ => rfl) (fun _ _ _ _ _ _ us ws h1 h2 => match us, ws, h1, h2 with | [_], [_], _, _ => rfl) (by decide) (by decide)
    obtain ⟨fdI11, FI11⟩ := FI11
    have x11 : ExcB P w K mg bs "Broken" D11 := excB_of E11.c.hs (E11.no _ (by simp)) (E11.no _ (by simp)) (gl_of X G aD11) ox11 rv11 ts11 ty11 kp11 iC11 tI11 FI11 scI11 rfl (Or.inl rfl) (Or.inl rfl) (Or.inl rfl) (fun _ _ _ _ _ _ us hl => match us, hl with | [_, _, _], _ => rfl) (fun _ _ _ _ _ _ _ _ _ => rfl)
    have x9 : Exc0 K mg "IsOver" D9 := ⟨xi9, gl_of X G aD9, kp9, E9.c.hs, ty9⟩
    have x10 : Exc0 K mg "NothingToUndo" D10 := ⟨xi10, gl_of X G aD10, kp10, E10.c.hs, ty10⟩
    let A : Nat → Addr := fun k => ([D0, D1, D2, D3, D4, D5, D6, D7, D8, D9, D10, D11] : List Addr).getD k 0
    have c12 : ∀ n, n < 12 → ExcC K (A n) := fun n hn => match n, hn with | 0, _ => E0.c | 1, _ => E1.c | 2, _ => E2.c | 3, _ => E3.c | 4, _ => E4.c | 5, _ => E5.c | 6, _ => E6.c | 7, _ => E7.c | 8, _ => E8.c | 9, _ => E9.c | 10, _ => E10.c | 11, _ => E11.c | n + 12, hn => absurd hn (by omega)
    have xf12 : ∀ n, n < 12 → XfC K (A n) := fun n hn => match n, hn with | 0, _ => E0.xf | 1, _ => E1.xf | 2, _ => E2.xf | 3, _ => E3.xf | 4, _ => E4.xf | 5, _ => E5.xf | 6, _ => E6.xf | 7, _ => E7.xf | 8, _ => E8.xf | 9, _ => E9.xf | 10, _ => E10.xf | 11, _ => E11.xf | n + 12, hn => absurd hn (by omega)
    have kk : ∀ n, n < 12 → ∀ j, j < 12 → PySem.W.kitOne K (.ref (A n)) (.ref (A j)) = some (j == n) := fun n hn => match n, hn with | 0, _ => E0.k12 | 1, _ => E1.k12 | 2, _ => E2.k12 | 3, _ => E3.k12 | 4, _ => E4.k12 | 5, _ => E5.k12 | 6, _ => E6.k12 | 7, _ => E7.k12 | 8, _ => E8.k12 | 9, _ => E9.k12 | 10, _ => E10.k12 | 11, _ => E11.k12 | n + 12, hn => absurd hn (by omega)
    have k3 : ∀ n, n < 12 → ∀ j, j < 3 → PySem.W.kitOne K (.ref (A n)) (.ref (([U0, U1, U2] : List Addr).getD j 0)) = some (sort3 n j) := fun n hn => match n, hn with | 0, _ => E0.k3 | 1, _ => E1.k3 | 2, _ => E2.k3 | 3, _ => E3.k3 | 4, _ => E4.k3 | 5, _ => E5.k3 | 6, _ => E6.k3 | 7, _ => E7.k3 | 8, _ => E8.k3 | 9, _ => E9.k3 | 10, _ => E10.k3 | 11, _ => E11.k3 | n + 12, hn => absurd hn (by omega)
    have k6 : ∀ n, n < 12 → ∀ j, j < 6 → PySem.W.kitOne K (.ref (A n)) (.type (owN.getD j "")) = some (sort9 n (j + 3)) := fun n hn => match n, hn with | 0, _ => E0.k6 | 1, _ => E1.k6 | 2, _ => E2.k6 | 3, _ => E3.k6 | 4, _ => E4.k6 | 5, _ => E5.k6 | 6, _ => E6.k6 | 7, _ => E7.k6 | 8, _ => E8.k6 | 9, _ => E9.k6 | 10, _ => E10.k6 | 11, _ => E11.k6 | n + 12, hn => absurd hn (by omega)
    have at12 : ∀ n, n < 12 → mg (erN.getD n Str.empty) = some (.ref (A n)) := fun n hn => match n, hn with | 0, _ => gl_of X G aD0 | 1, _ => gl_of X G aD1 | 2, _ => gl_of X G aD2 | 3, _ => gl_of X G aD3 | 4, _ => gl_of X G aD4 | 5, _ => gl_of X G aD5 | 6, _ => gl_of X G aD6 | 7, _ => gl_of X G aD7 | 8, _ => gl_of X G aD8 | 9, _ => gl_of X G aD9 | 10, _ => gl_of X G aD10 | 11, _ => gl_of X G aD11 | n + 12, hn => absurd hn (by omega)
    have nd : ∀ n : _root_.Fin 12, (erN.getD n.val Str.empty == ("__debug__" : Str)) = false := by decide +kernel
    have E12 : Er12 P w K mg bs A := { v := fun n hn => match n, hn with | 0, _ => x0 | 1, _ => x1 | 2, _ => x2 | 3, _ => x3 | 4, _ => x4 | 5, _ => x5 | 6, _ => x6 | 7, _ => x7 | 8, _ => x8 | n + 9, hn => absurd hn (by omega), z9 := x9, z10 := x10, b := x11, c := c12, xf := xf12, no := fun n hn => match n, hn with | 0, _ => E0.no _ (by simp [fldN]) | 1, _ => E1.no _ (by simp [fldN]) | 2, _ => E2.no _ (by simp [fldN]) | 3, _ => E3.no _ (by simp [fldN]) | 4, _ => E4.no _ (by simp [fldN]) | 5, _ => E5.no _ (by simp [fldN]) | 6, _ => E6.no _ (by simp [fldN]) | 7, _ => E7.no _ (by simp [fldN]) | 8, _ => E8.no _ (by simp [fldN]) | n + 9, hn => absurd hn (by omega), noI := E11.no _ (by simp), noS := E11.no _ (by simp), ns := fun j hj => ⟨⟨nd ⟨j, hj⟩, .inl ⟨A j, rfl, at12 j hj⟩⟩, fun n hn => kk n hn j hj⟩, bs := fun n hn => match n, hn with | 0, _ => ⟨.ref U0, ⟨by decide, .inl ⟨U0, rfl, gl_of X G aU0⟩⟩, fun n hn => k3 n hn 0 (by decide)⟩ | 1, _ => ⟨.ref U1, ⟨by decide, .inl ⟨U1, rfl, gl_of X G aU1⟩⟩, fun n hn => k3 n hn 1 (by decide)⟩ | 2, _ => ⟨.ref U2, ⟨by decide, .inl ⟨U2, rfl, gl_of X G aU2⟩⟩, fun n hn => k3 n hn 2 (by decide)⟩ | 3, _ => ⟨.type "ValueError", ⟨by decide, .inr ⟨"ValueError", rfl, o0, by decide +kernel, by decide⟩⟩, fun n hn => k6 n hn 0 (by decide)⟩ | 4, _ => ⟨.type "LookupError", ⟨by decide, .inr ⟨"LookupError", rfl, o1, by decide +kernel, by decide⟩⟩, fun n hn => k6 n hn 1 (by decide)⟩ | 5, _ => ⟨.type "ArithmeticError", ⟨by decide, .inr ⟨"ArithmeticError", rfl, o2, by decide +kernel, by decide⟩⟩, fun n hn => k6 n hn 2 (by decide)⟩ | 6, _ => ⟨.type "KeyError", ⟨by decide, .inr ⟨"KeyError", rfl, o3, by decide +kernel, by decide⟩⟩, fun n hn => k6 n hn 3 (by decide)⟩ | 7, _ => ⟨.type "IndexError", ⟨by decide, .inr ⟨"IndexError", rfl, o4, by decide +kernel, by decide⟩⟩, fun n hn => k6 n hn 4 (by decide)⟩ | 8, _ => ⟨.type "ZeroDivisionError", ⟨by decide, .inr ⟨"ZeroDivisionError", rfl, o5, by decide +kernel, by decide⟩⟩, fun n hn => k6 n hn 5 (by decide)⟩ | n + 9, hn => absurd hn (by omega), cat := ⟨U0, U1, U2, gl_of X G aU0, gl_of X G aU1, gl_of X G aU2, em0, em7, em11⟩ }
    have C1 := cSo (P := P) (w := w) (base := bs) T E12 d_law_sorts
    have C2 := cBa (P := P) (w := w) (base := bs) T E12 d_law_bases
    have C3 := cDu (P := P) (w := w) (base := bs) d_law_due
    have C4 := cGi (P := P) (w := w) (base := bs) T E12 d_law_given
    have C5 := cKr (P := P) (w := w) (base := bs) T E12 d_law_kept_right
    have C6 := cRr (P := P) (w := w) (base := bs) T E12 d_law_raised_right
    have C7 := cRi (P := P) (w := w) (base := bs) T C1 C2 C3 C4 C5 C6 d_law_right
    exact gLaw T M C7 F
end J
section
open PySem PySem.W PyProof.Rows
open_top hd for PySem.Challenge.rw_joinrounds_k01_limits_and_errors
end
open PySem PySem.W PyProof.Rows
set_option maxRecDepth 100000 in
set_option maxHeartbeats 0 in
theorem PySem.Challenge.cw_joinrounds_k01_limits_and_errors_holds : PySem.Challenge.rw_joinrounds_k01_limits_and_errors.Holds :=
  hd (by
  k_fill
  refine J.walkN (l := PySem.Challenge.rw_joinrounds_k01_limits_and_errors) (n := 63) (k := 5) (x := "_law_cells") rfl (by decide) rfl ⟨rfl, by decide, by decide⟩ (fun w h Y => PySem.W.kIn_of Y) ?O ?F
  case O =>
    intro w
    kernel_rfl
  case F =>
    intro w mg fa h KX G hmg
    refine' J.end_of KX G hmg ?aU0 ?aU1 ?aU2 ?aD0 ?ok0 ?ty0 ?kp0 ?ox0 ?rv0 ?ts0 ?iC0 ?tI0 (J.fi_mk ?li0 ?ci0 ?ki0) ?aD1 ?ok1 ?ty1 ?kp1 ?ox1 ?rv1 ?ts1 ?iC1 ?tI1 (J.fi_mk ?li1 ?ci1 ?ki1) ?aD2 ?ok2 ?ty2 ?kp2 ?ox2 ?rv2 ?ts2 ?iC2 ?tI2 (J.fi_mk ?li2 ?ci2 ?ki2) ?aD3 ?ok3 ?ty3 ?kp3 ?ox3 ?rv3 ?ts3 ?iC3 ?tI3 (J.fi_mk ?li3 ?ci3 ?ki3) ?aD4 ?ok4 ?ty4 ?kp4 ?ox4 ?rv4 ?ts4 ?iC4 ?tI4 (J.fi_mk ?li4 ?ci4 ?ki4) ?aD5 ?ok5 ?ty5 ?kp5 ?ox5 ?rv5 ?ts5 ?iC5 ?tI5 (J.fi_mk ?li5 ?ci5 ?ki5) ?aD6 ?ok6 ?ty6 ?kp6 ?ox6 ?rv6 ?ts6 ?iC6 ?tI6 (J.fi_mk ?li6 ?ci6 ?ki6) ?aD7 ?ok7 ?ty7 ?kp7 ?ox7 ?rv7 ?ts7 ?iC7 ?tI7 (J.fi_mk ?li7 ?ci7 ?ki7) ?aD8 ?ok8 ?ty8 ?kp8 ?ox8 ?rv8 ?ts8 ?iC8 ?tI8 (J.fi_mk ?li8 ?ci8 ?ki8) ?aD9 ?ok9 ?ty9 ?kp9 ?xi9 ?aD10 ?ok10 ?ty10 ?kp10 ?xi10 ?aD11 ?ok11 ?ty11 ?kp11 ?ox11 ?rv11 ?ts11 ?iC11 ?tI11 (J.fi_mk ?li11 ?ci11 ?ki11) ?em0 ?em7 ?em11 (J.no_of KX G ?o0) (J.no_of KX G ?o1) (J.no_of KX G ?o2) (J.no_of KX G ?o3) (J.no_of KX G ?o4) (J.no_of KX G ?o5) ⟨J.no_of KX G ?b0, J.no_of KX G ?b1, J.no_of KX G ?b2, J.no_of KX G ?b3, J.no_of KX G ?b4, J.no_of KX G ?b5, J.no_of KX G ?b6, J.no_of KX G ?b7, J.no_of KX G ?b8, J.no_of KX G ?b9, J.no_of KX G ?b10, J.no_of KX G ?b11, J.no_of KX G ?b12, J.no_of KX G ?b13, J.no_of KX G ?b14, J.no_of KX G ?b15⟩ ⟨J.gx_of KX G ?g0, J.gx_of KX G ?g1, J.gx_of KX G ?g2, J.gx_of KX G ?g3, J.gx_of KX G ?g4, J.gx_of KX G ?g5, J.gx_of KX G ?g6, J.gx_of KX G ?g7, J.gx_of KX G ?g8, J.gx_of KX G ?g9, J.gx_of KX G ?g10, J.gx_of KX G ?g11⟩ (J.df_mk KX G ?a0 ?l0 ?c0 ?k0) (J.df_mk KX G ?a1 ?l1 ?c1 ?k1) (J.df_mk KX G ?a2 ?l2 ?c2 ?k2) (J.df_mk KX G ?a3 ?l3 ?c3 ?k3) (J.df_mk KX G ?a4 ?l4 ?c4 ?k4) (J.df_mk KX G ?a5 ?l5 ?c5 ?k5) (J.df_mk KX G ?a6 ?l6 ?c6 ?k6) (J.df_mk KX G ?a7 ?l7 ?c7 ?k7)
    (case aU0 => k_is); (case aU1 => k_is); (case aU2 => k_is); (case aD0 => k_is); (case ty0 => k_is); (case kp0 => k_is)
    (case ox0 => k_is); (case ts0 => k_is); (case iC0 => k_is); (case tI0 => k_is); (case li0 => k_is); (case ci0 => k_is)
    (case ki0 => k_is); (case aD1 => k_is); (case ty1 => k_is); (case kp1 => k_is); (case ox1 => k_is); (case ts1 => k_is)
    (case iC1 => k_is); (case tI1 => k_is); (case li1 => k_is); (case ci1 => k_is); (case ki1 => k_is); (case aD2 => k_is)
    (case ty2 => k_is); (case kp2 => k_is); (case ox2 => k_is); (case ts2 => k_is); (case iC2 => k_is); (case tI2 => k_is)
    (case li2 => k_is); (case ci2 => k_is); (case ki2 => k_is); (case aD3 => k_is); (case ty3 => k_is); (case kp3 => k_is)
    (case ox3 => k_is); (case ts3 => k_is); (case iC3 => k_is); (case tI3 => k_is); (case li3 => k_is); (case ci3 => k_is)
    (case ki3 => k_is); (case aD4 => k_is); (case ty4 => k_is); (case kp4 => k_is); (case ox4 => k_is); (case ts4 => k_is)
    (case iC4 => k_is); (case tI4 => k_is); (case li4 => k_is); (case ci4 => k_is); (case ki4 => k_is); (case aD5 => k_is)
    (case ty5 => k_is); (case kp5 => k_is); (case ox5 => k_is); (case ts5 => k_is); (case iC5 => k_is); (case tI5 => k_is)
    (case li5 => k_is); (case ci5 => k_is); (case ki5 => k_is); (case aD6 => k_is); (case ty6 => k_is); (case kp6 => k_is)
    (case ox6 => k_is); (case ts6 => k_is); (case iC6 => k_is); (case tI6 => k_is); (case li6 => k_is); (case ci6 => k_is)
    (case ki6 => k_is); (case aD7 => k_is); (case ty7 => k_is); (case kp7 => k_is); (case ox7 => k_is); (case ts7 => k_is)
    (case iC7 => k_is); (case tI7 => k_is); (case li7 => k_is); (case ci7 => k_is); (case ki7 => k_is); (case aD8 => k_is)
    (case ty8 => k_is); (case kp8 => k_is); (case ox8 => k_is); (case ts8 => k_is); (case iC8 => k_is); (case tI8 => k_is)
    (case li8 => k_is); (case ci8 => k_is); (case ki8 => k_is); (case aD9 => k_is); (case ty9 => k_is); (case kp9 => k_is)
    (case aD10 => k_is); (case ty10 => k_is); (case kp10 => k_is); (case aD11 => k_is); (case ty11 => k_is); (case kp11 => k_is)
    (case ox11 => k_is); (case ts11 => k_is); (case iC11 => k_is); (case tI11 => k_is); (case li11 => k_is); (case ci11 => k_is)
    (case ki11 => k_is); (case o0 => k_is); (case o1 => k_is); (case o2 => k_is); (case o3 => k_is); (case o4 => k_is)
    (case o5 => k_is); (case b0 => k_is); (case b1 => k_is); (case b2 => k_is); (case b3 => k_is); (case b4 => k_is)
    (case b5 => k_is); (case b6 => k_is); (case b7 => k_is); (case b8 => k_is); (case b9 => k_is); (case b10 => k_is)
    (case b11 => k_is); (case b12 => k_is); (case b13 => k_is); (case b14 => k_is); (case b15 => k_is); (case g0 => k_is)
    (case g1 => k_is); (case g2 => k_is); (case g3 => k_is); (case g4 => k_is); (case g5 => k_is); (case g6 => k_is)
    (case g7 => k_is); (case g8 => k_is); (case g9 => k_is); (case g10 => k_is); (case g11 => k_is); (case a0 => k_is)
    (case l0 => k_is); (case c0 => k_is); (case k0 => k_is); (case a1 => k_is); (case l1 => k_is); (case c1 => k_is)
    (case k1 => k_is); (case a2 => k_is); (case l2 => k_is); (case c2 => k_is); (case k2 => k_is); (case a3 => k_is)
    (case l3 => k_is); (case c3 => k_is); (case k3 => k_is); (case a4 => k_is); (case l4 => k_is); (case c4 => k_is)
    (case k4 => k_is); (case a5 => k_is); (case l5 => k_is); (case c5 => k_is); (case k5 => k_is); (case a6 => k_is)
    (case l6 => k_is); (case c6 => k_is); (case k6 => k_is); (case a7 => k_is); (case l7 => k_is); (case c7 => k_is)
    (case k7 => k_is)
    (case ok0 => kernel_rfl)
    (case rv0 => kernel_rfl)
    (case ok1 => kernel_rfl)
    (case rv1 => kernel_rfl)
    (case ok2 => kernel_rfl)
    (case rv2 => kernel_rfl)
    (case ok3 => kernel_rfl)
    (case rv3 => kernel_rfl)
    (case ok4 => kernel_rfl)
    (case rv4 => kernel_rfl)
    (case ok5 => kernel_rfl)
    (case rv5 => kernel_rfl)
    (case ok6 => kernel_rfl)
    (case rv6 => kernel_rfl)
    (case ok7 => kernel_rfl)
    (case rv7 => kernel_rfl)
    (case ok8 => kernel_rfl)
    (case rv8 => kernel_rfl)
    (case ok9 => kernel_rfl)
    (case xi9 => kernel_rfl)
    (case ok10 => kernel_rfl)
    (case xi10 => kernel_rfl)
    (case ok11 => kernel_rfl)
    (case rv11 => kernel_rfl)
    (case em0 => kernel_rfl)
    (case em7 => kernel_rfl)
    (case em11 => kernel_rfl))
