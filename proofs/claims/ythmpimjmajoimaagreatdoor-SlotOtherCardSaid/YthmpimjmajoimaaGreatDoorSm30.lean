/-
  Plain mathematics of slots: checkpoints as pages, what a slot holds, what writing does call by call, which is the newest.
-/
import Derived.Test.YthmpimjmajoimaaGreatDoorSm03
import Derived.Test.YthmpimjmajoimaaGreatDoorSm25
namespace Go.Proofs.YthmpimjmajoimaaGreatDoor

/-- A checkpoint. -/
structure ChkS where
  nu : Int
  se : Int
  sq : Int
  z : Int
  p : Int
  b : Int
  dir : List Int
/-- A page's error, as it is read. -/
def pgE (ps : List Int) : Int := if ps.length ≠ 33 then 3 else if bk ps 13 ≠ tot ps then 4 else if (decide (1 ≤ ps.getD 0 0) && decide (ps.getD 0 0 ≤ 5)) = false then 2 else 0
namespace ChkS
def zero : ChkS := ⟨0, 0, 0, 0, 0, 0, []⟩
def right (c : ChkS) : Bool := rightC c.z c.p c.b c.dir.length
def blocks (c : ChkS) : List (List Int) := blocksC c.nu c.se c.sq c.z c.p c.b c.dir
def words (c : ChkS) : Prop := Words4 (c.nu :: c.se :: c.sq :: c.dir)
def page (c : ChkS) (i : Nat) : List Int := pageB 5 c.se (i : Int) c.nu (c.blocks.getD i [])
def pages (c : ChkS) : List (List Int) := (List.range c.blocks.length).map c.page
end ChkS
/-- Is a page the i-th one of a checkpoint, whose first page is f? -/
def pgB (f : List Int) (i : Nat) (ps : List Int) : Bool := decide (pgE ps = 0) && (decide (ps.getD 0 0 = 5) && (decide (bk ps 5 = (i : Int)) && (decide (bk ps 1 = bk f 1) && decide (bk ps 9 = bk f 9))))
def pagesOk (l : List (List Int)) : Bool := (List.range l.length).all (fun i => pgB (l.getD 0 []) i (l.getD i []))
def blk17 (l : List (List Int)) : List (List Int) := l.map (fun ps => ps.drop 17)
/-- What pages say. -/
def chkOf (l : List (List Int)) : ChkS := ⟨numAt (blk17 l).flatten 0, numAt (blk17 l).flatten 1, numAt (blk17 l).flatten 2, numAt (blk17 l).flatten 3, numAt (blk17 l).flatten 4, numAt (blk17 l).flatten 5, readDir (blk17 l)⟩
def whereN (n : Nat) (nu : Int) : Int := (n : Int) - 2 + nu % 2
/-- Does a slot hold a checkpoint? -/
def holdB (n P : Nat) (zi : Int) (l : List (List Int)) : Bool :=
  pagesOk l && (decide (readGE (blk17 l) = 0) && (decide ((chkOf l).nu = bk (l.getD 0 []) 9) && (decide ((chkOf l).se = bk (l.getD 0 []) 1) && (decide ((chkOf l).z = (n : Int)) && (decide ((chkOf l).p = (P : Int)) && decide (whereN n (chkOf l).nu = zi))))))
namespace DevS
def slotB (S : DevS) (zi : Int) : Bool := decide (2 ≤ S.zones.length) && (decide (zi = (S.zones.length : Int) - 1) || decide (zi = (S.zones.length : Int) - 2))
def slE (S : DevS) (zi : Int) : Int := if S.gone = true then 7 else if S.slotB zi = false then 1 else if holdB S.zones.length S.P zi (S.zone zi).pages = true then 0 else 10
def slC (S : DevS) (zi : Int) : ChkS := if S.slE zi = 0 then chkOf (S.zone zi).pages else ChkS.zero
/-- The newest one. -/
def newE (S : DevS) : Int := if S.gone = true then 7 else if S.zones.length < 2 then 1 else if S.slE ((S.zones.length : Int) - 2) = 0 ∨ S.slE ((S.zones.length : Int) - 1) = 0 then 0 else 10
def newC (S : DevS) : ChkS :=
  if S.newE ≠ 0 then ChkS.zero
  else if S.slE ((S.zones.length : Int) - 2) ≠ 0 then S.slC ((S.zones.length : Int) - 1)
  else if S.slE ((S.zones.length : Int) - 1) ≠ 0 then S.slC ((S.zones.length : Int) - 2)
  else if (S.slC ((S.zones.length : Int) - 2)).nu = ((S.slC ((S.zones.length : Int) - 1)).nu + 1) % 4294967296 then S.slC ((S.zones.length : Int) - 2)
  else if (S.slC ((S.zones.length : Int) - 1)).nu = ((S.slC ((S.zones.length : Int) - 2)).nu + 1) % 4294967296 ∨ (S.slC ((S.zones.length : Int) - 2)).nu < (S.slC ((S.zones.length : Int) - 1)).nu then S.slC ((S.zones.length : Int) - 1)
  else S.slC ((S.zones.length : Int) - 2)
/-- Pages that are appended, one behind the other, till one isn't. -/
def appL (S : DevS) (zi : Int) : List (List Int) → DevS × Int
  | [] => (S, 0)
  | b :: r => if S.mayE (S.appE zi b) = 0 then (S.app zi b).appL zi r else (S.app zi b, S.mayE (S.appE zi b))
def wrArg (S : DevS) (c : ChkS) : Bool := !c.right || (decide (c.z ≠ (S.zones.length : Int)) || decide (c.p ≠ (S.P : Int)))
/-- A checkpoint that is written: the device behind it, the error. -/
def wr (S : DevS) (c : ChkS) : DevS × Int :=
  if S.wrArg c = true then (S, 1)
  else if S.mayE (S.resetE (whereN S.zones.length c.nu)) ≠ 0 then (S.reset (whereN S.zones.length c.nu), S.mayE (S.resetE (whereN S.zones.length c.nu)))
  else if ((S.reset (whereN S.zones.length c.nu)).appL (whereN S.zones.length c.nu) c.pages).2 ≠ 0 then (S.reset (whereN S.zones.length c.nu)).appL (whereN S.zones.length c.nu) c.pages
  else (((S.reset (whereN S.zones.length c.nu)).appL (whereN S.zones.length c.nu) c.pages).1.flush, ((S.reset (whereN S.zones.length c.nu)).appL (whereN S.zones.length c.nu) c.pages).1.mayE 0)
end DevS

namespace ChkS
variable {c : ChkS}
theorem right_bd (h : c.right = true) : (11 ≤ c.z ∧ c.z ≤ 24) ∧ (4 ≤ c.p ∧ c.p ≤ 16) := by
  have := rightB_bd (right_parts h).1
  exact ⟨this.1, this.2.1⟩
theorem blocks_le (h : c.right = true) : 2 ≤ c.blocks.length ∧ (c.blocks.length : Int) ≤ c.p := by
  have h1 := blocksC_len (nu := c.nu) (se := c.se) (sq := c.sq) (z := c.z) (p := c.p) (b := c.b) (dir := c.dir) h
  have h2 := many_fits (z := c.z) (p := c.p) (b := c.b) (dir := c.dir) h
  have hb := rightB_bd (right_parts h).1
  have h3 : 2 ≤ manyC c.b := by
    unfold manyC
    omega
  have h1 : (c.blocks.length : Int) = manyC c.b := h1
  omega
theorem pages_len : c.pages.length = c.blocks.length := by simp [pages]
theorem pages_get {i : Nat} (h : i < c.pages.length) : c.pages[i] = c.page i := by simp [pages]
theorem block_16 {i : Nat} (h : i < c.blocks.length) : (c.blocks.getD i []).length = 16 := by
  rw [List.getD_eq_getElem?_getD, List.getElem?_eq_getElem h]
  exact blocksC_16 _ (List.getElem_mem h)
theorem block_byt (i : Nat) : Byt (c.blocks.getD i []) := by
  rw [List.getD_eq_getElem?_getD]
  rcases Nat.lt_or_ge i c.blocks.length with h | h
  · rw [List.getElem?_eq_getElem h]
    exact blocksC_byt _ (List.getElem_mem h)
  · rw [List.getElem?_eq_none h]
    exact Byt.nil
theorem page_33 {i : Nat} (h : i < c.blocks.length) : (c.page i).length = 33 := by
  unfold page
  rw [pageB_len, block_16 h]
theorem page_byt (i : Nat) : Byt (c.page i) := byt_page _ _ _ (by decide) (by decide) (block_byt i)
theorem page_E {i : Nat} (h : i < c.blocks.length) : pgE (c.page i) = 0 := by
  unfold pgE
  rw [if_neg (by rw [page_33 h]; decide)]
  have e : bk (c.page i) 13 = tot (c.page i) := by
    unfold page
    rw [page_bk13, page_tot]
  rw [if_neg (by rw [e]; simp)]
  rw [show (c.page i).getD 0 0 = 5 from rfl]
  decide
theorem words_bd (h : c.words) : (0 ≤ c.nu ∧ c.nu ≤ 4294967295) ∧ (0 ≤ c.se ∧ c.se ≤ 4294967295) := ⟨h _ (by simp), h _ (by simp)⟩
theorem pages_blk (_h : c.right = true) : blk17 c.pages = c.blocks := by
  have e : blk17 c.pages = (List.range c.blocks.length).map (fun i => c.blocks.getD i []) := by
    unfold blk17 pages
    rw [List.map_map]
    rfl
  rw [e]
  apply List.ext_getElem
  · simp
  · intro i h1 h2
    rw [List.getElem_map, List.getElem_range, List.getD_eq_getElem?_getD, List.getElem?_eq_getElem h2]
    rfl
theorem chk_pages (h : c.right = true) (hw : c.words) : chkOf c.pages = c := by
  have hn := fun i hi => blocksC_num (nu := c.nu) (se := c.se) (sq := c.sq) (z := c.z) (p := c.p) (b := c.b) (dir := c.dir) h hw i hi
  have hd := read_dir (nu := c.nu) (se := c.se) (sq := c.sq) (z := c.z) (p := c.p) (b := c.b) (dir := c.dir) h hw
  unfold chkOf
  rw [pages_blk h]
  have n0 := hn 0 (by omega)
  have n1 := hn 1 (by omega)
  have n2 := hn 2 (by omega)
  have n3 := hn 3 (by omega)
  have n4 := hn 4 (by omega)
  have n5 := hn 5 (by omega)
  simp only [numsC, List.getElem_cons_succ, List.getElem_cons_zero] at n0 n1 n2 n3 n4 n5
  show (⟨numAt c.blocks.flatten 0, numAt c.blocks.flatten 1, numAt c.blocks.flatten 2, numAt c.blocks.flatten 3, numAt c.blocks.flatten 4, numAt c.blocks.flatten 5, readDir c.blocks⟩ : ChkS) = c
  unfold blocks
  rw [n0, n1, n2, n3, n4, n5, hd]
theorem pages_ok (h : c.right = true) (hw : c.words) : pagesOk c.pages = true := by
  have hb := words_bd hw
  have hl := blocks_le h
  have hp := right_bd h
  unfold pagesOk
  rw [List.all_eq_true]
  intro i hi
  have hi := List.mem_range.1 hi
  have hi2 : i < c.blocks.length := by rw [← pages_len]; exact hi
  have g : ∀ j, j < c.blocks.length → c.pages.getD j [] = c.page j := fun j hj => by
    have : j < c.pages.length := by rw [pages_len]; exact hj
    rw [List.getD_eq_getElem?_getD, List.getElem?_eq_getElem this, pages_get]
    rfl
  rw [g i hi2, g 0 (by omega)]
  unfold pgB
  have e5 : bk (c.page i) 5 = (i : Int) := page_bk5 (by omega) (by omega)
  have e1 : ∀ j, bk (c.page j) 1 = c.se := fun j => page_bk1 hb.2.1 hb.2.2
  have e9 : ∀ j, bk (c.page j) 9 = c.nu := fun j => page_bk9 hb.1.1 hb.1.2
  rw [page_E hi2, e5, e1, e1, e9, e9, show (c.page i).getD 0 0 = 5 from rfl]
  simp
theorem hold_pages (h : c.right = true) (hw : c.words) {n P : Nat} (hz : c.z = (n : Int)) (hp : c.p = (P : Int)) : holdB n P (whereN n c.nu) c.pages = true := by
  have hb := words_bd hw
  have hl := blocks_le h
  unfold holdB
  have h0 : c.pages.getD 0 [] = c.page 0 := by
    have : 0 < c.pages.length := by rw [pages_len]; omega
    rw [List.getD_eq_getElem?_getD, List.getElem?_eq_getElem this, pages_get]
    rfl
  have e1 : bk (c.page 0) 1 = c.se := page_bk1 hb.2.1 hb.2.2
  have e9 : bk (c.page 0) 9 = c.nu := page_bk9 hb.1.1 hb.1.2
  have er : readGE c.blocks = 0 := read_blocks (nu := c.nu) (se := c.se) (sq := c.sq) (z := c.z) (p := c.p) (b := c.b) (dir := c.dir) h hw
  rw [pages_ok h hw, pages_blk h, chk_pages h hw, h0, e1, e9, hz, hp, er]
  simp
end ChkS
/-- Of a beginning of a checkpoint's blocks nothing comes back. -/
theorem read_begin {c : ChkS} (h : c.right = true) (hw : c.words) {t : Nat} (ht : t < c.blocks.length) : readGE (c.blocks.take t) ≠ 0 := by
  intro h0
  have h16 : ∀ x ∈ c.blocks, x.length = 16 := blocksC_16
  obtain ⟨⟨h2, _⟩, _, hm, _⟩ := read_parts h0
  have hl : (c.blocks.length : Int) = manyC c.b := blocksC_len (nu := c.nu) (se := c.se) (sq := c.sq) (z := c.z) (p := c.p) (b := c.b) (dir := c.dir) h
  have h5 : numAt c.blocks.flatten 5 = _ := blocksC_num (nu := c.nu) (se := c.se) (sq := c.sq) (z := c.z) (p := c.p) (b := c.b) (dir := c.dir) h hw 5 (by omega)
  simp only [numsC, List.getElem_cons_succ, List.getElem_cons_zero] at h5
  rw [List.length_take] at h2 hm
  rw [take_flatten16 h16] at hm
  have e : numAt (c.blocks.flatten.take (16 * t)) 5 = numAt c.blocks.flatten 5 := numAt_congr (getD_take (by omega)) (getD_take (by omega)) (getD_take (by omega)) (getD_take (by omega))
  rw [e, h5] at hm
  omega
theorem hold_begin {c : ChkS} (h : c.right = true) (hw : c.words) {n P : Nat} {zi : Int} {t : Nat} (ht : t < c.pages.length) : holdB n P zi (c.pages.take t) = false := by
  have e : blk17 (c.pages.take t) = c.blocks.take t := by
    rw [← ChkS.pages_blk h]
    simp [blk17, List.map_take]
  have := read_begin h hw (t := t) (by rw [← ChkS.pages_len]; exact ht)
  unfold holdB
  rw [e]
  simp [this]
/-- A torn page isn't one of a checkpoint. -/
theorem hold_torn {n P : Nat} {zi : Int} {l : List (List Int)} (h : [] ∈ l) : holdB n P zi l = false := by
  obtain ⟨i, hi, e⟩ := List.getElem_of_mem h
  have : pagesOk l = false := by
    cases hp : pagesOk l with
    | false => rfl
    | true =>
      unfold pagesOk at hp
      rw [List.all_eq_true] at hp
      have := hp i (List.mem_range.2 hi)
      rw [List.getD_eq_getElem?_getD (i := i), List.getElem?_eq_getElem hi, e] at this
      simp [pgB, pgE] at this
  unfold holdB
  rw [this]
  rfl
theorem hold_nil {n P : Nat} {zi : Int} : holdB n P zi [] = false := by
  have : readGE (blk17 []) = 3 := by decide
  unfold holdB
  rw [this]
  simp
end Go.Proofs.YthmpimjmajoimaaGreatDoor
