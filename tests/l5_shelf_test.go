package tests

import (
	"cmp"
	"math"
	"slices"
	"strings"
	"testing"

	"loop.example/copiedtexts/impl"
)

var (
	_ func(impl.Entry, impl.Entry) bool             = impl.EntryLess
	_ func([]impl.Entry) bool                       = impl.ShelfOk
	_ func(int, string, int, int) []impl.Entry      = impl.ShelfOf
	_ func([]impl.Entry, []impl.Entry) []impl.Entry = impl.ShelfJoin
	_ func([]impl.Entry, int) []impl.Entry          = impl.ShelfLose
	_ func([]impl.Entry, int) []impl.Entry          = impl.ShelfFind
	_ func([]impl.Entry) []int                      = impl.ShelfDocs
	_ func([]impl.Entry, []impl.Mark) []impl.Share  = impl.ShelfAsk
	_ struct{ Print, Doc, At int }                  = impl.Entry{}
	_ struct{ Doc, Many int }                       = impl.Share{}
)

func entryRow(numbers ...int) []impl.Entry {
	var list []impl.Entry
	for i := 0; i < len(numbers); i += 3 {
		list = append(list, impl.Entry{Print: numbers[i], Doc: numbers[i+1], At: numbers[i+2]})
	}
	return list
}

func shareRow(numbers ...int) []impl.Share {
	var shares []impl.Share
	for i := 0; i < len(numbers); i += 2 {
		shares = append(shares, impl.Share{Doc: numbers[i], Many: numbers[i+1]})
	}
	return shares
}

func compareEntries(a impl.Entry, b impl.Entry) int {
	return cmp.Or(cmp.Compare(a.Print, b.Print), cmp.Compare(a.Doc, b.Doc), cmp.Compare(a.At, b.At))
}

// entriesOf returns all entries of some fingerprints, texts and places.
func entriesOf(prints []int, docs []int, places []int) []impl.Entry {
	var list []impl.Entry
	for _, print := range prints {
		for _, doc := range docs {
			for _, at := range places {
				list = append(list, impl.Entry{Print: print, Doc: doc, At: at})
			}
		}
	}
	return list
}

// allParts returns all choices of some entries, in the order of these.
func allParts(list []impl.Entry) [][]impl.Entry {
	parts := [][]impl.Entry{nil}
	for _, entry := range list {
		for _, part := range parts {
			parts = append(parts, append(slices.Clone(part), entry))
		}
	}
	return parts
}

// shelfOfEntries puts entries in order, each once.
func shelfOfEntries(lists ...[]impl.Entry) []impl.Entry {
	list := slices.Concat(lists...)
	slices.SortFunc(list, compareEntries)
	return slices.Compact(list)
}

func drawnShelf(d *drawn, n int, prints int, docs int, places int) []impl.Entry {
	var list []impl.Entry
	for range n {
		list = append(list, impl.Entry{Print: d.below(prints), Doc: d.below(docs), At: d.below(places)})
	}
	return shelfOfEntries(list)
}

// smallShelves returns all shelves of a few entries, with the least and the greatest numbers that entries have.
func smallShelves() [][]impl.Entry {
	return allParts(entriesOf([]int{0, prime - 1}, []int{0, math.MaxInt}, []int{0, math.MaxInt}))
}

// textShelves returns shelves of texts with one number, with different ones, with fingerprints that meet, and of texts without marks.
func textShelves() [][]impl.Entry {
	shelves := [][]impl.Entry{impl.ShelfOf(0, "", 1, 1), impl.ShelfOf(1, "ab", 3, 1)}
	for i, s := range []string{"a", "abab", "aaaa", "aAapeq", "peq", "\xff\x80\xff\x00", "the old sea of stones", "a new sea of stone", strings.Repeat("ab", 20)} {
		shelves = append(shelves, impl.ShelfOf(1, s, 1, 2), impl.ShelfOf(i, s, 3, 1), impl.ShelfOf(math.MaxInt, s, 3, 4))
	}
	return shelves
}

// longShelves returns shelves of up to 1000 entries: of few and of many different fingerprints, texts and places, and of long texts.
func longShelves() [][]impl.Entry {
	d := &drawn{state: 11}
	shelves := [][]impl.Entry{drawnShelf(d, 1000, 1, 1, 5000), drawnShelf(d, 1000, 1, 5000, 1), drawnShelf(d, 1000, prime, 1, 1)}
	for _, n := range []int{10, 100, 1000} {
		shelves = append(shelves, drawnShelf(d, n, 3, 4, 50), drawnShelf(d, n, 40, 2, 9), drawnShelf(d, n, 9, 300, 2), drawnShelf(d, n, prime, 1000, 1000))
	}
	for i, s := range longTexts() {
		if i%9 == 0 {
			shelves = append(shelves, impl.ShelfOf(i/18, s, 2, 3))
		}
	}
	return shelves
}

// noEntries returns entries that are on no shelf.
func noEntries() []impl.Entry {
	return entryRow(
		-1, 0, 0, math.MinInt, 1, 1, prime, 0, 0, prime+1, 0, 0, math.MaxInt, 1, 1,
		0, -1, 0, 7, math.MinInt, 7, 0, 0, -1, 7, 7, math.MinInt, -1, -1, -1, prime-1, 0, -1, prime-1, -1, 0,
		math.MinInt, math.MinInt, math.MinInt, math.MaxInt, math.MaxInt, math.MaxInt,
	)
}

// noShelves returns entries that are no shelf, with one fault at the beginning, within, or at the end.
func noShelves() [][]impl.Entry {
	var lists [][]impl.Entry
	for _, entry := range noEntries() {
		lists = append(lists, []impl.Entry{entry}, append(entryRow(0, 0, 0), entry), append([]impl.Entry{entry}, entryRow(prime-1, 9, 9)...))
	}
	lists = append(lists, entryRow(1, 0, 0, 0, 0, 0), entryRow(5, 1, 0, 5, 0, 0), entryRow(5, 1, 3, 5, 1, 2), entryRow(1, 0, 0, 0, 9, 9), entryRow(1, 1, 0, 1, 0, 9))
	good := entriesOf([]int{0, 4}, []int{0, 3}, []int{0, 8})
	for i := range good {
		lists = append(lists, slices.Insert(slices.Clone(good), i, good[i]))
		if i > 0 {
			lists = append(lists, slices.Concat(good[:i-1], []impl.Entry{good[i], good[i-1]}, good[i+1:]))
		}
	}
	return lists
}

func edgeDocs() []int {
	return []int{math.MinInt, math.MinInt + 1, -2, -1, 0, 1, 2, 3, 7, 1 << 40, math.MaxInt - 1, math.MaxInt}
}

func edgePrints() []int {
	return []int{math.MinInt, math.MinInt + 1, -2, -1, 0, 1, 2, 98, prime - 2, prime - 1, prime, prime + 1, 1 << 40, math.MaxInt - 1, math.MaxInt}
}

func TestP105OneOfTwoEntriesIsAhead(t *testing.T) {
	numbers := []int{math.MinInt, -1, 0, 1, prime, math.MaxInt}
	entries := entriesOf(numbers, numbers, numbers)
	for _, a := range entries {
		for _, b := range entries {
			order := compareEntries(a, b)
			if impl.EntryLess(a, b) != (order < 0) || impl.EntryLess(b, a) != (order > 0) {
				t.Fatal(a, b)
			}
		}
	}
}

func TestP105SomeEntries(t *testing.T) {
	ordered := entryRow(0, 0, 0, 0, 0, 1, 0, 1, 0, 0, 1, 9, 0, 2, 0, 1, 0, 0, 1, 0, 5, 1, 3, 0, 7, 0, 0)
	for i, a := range ordered {
		for j, b := range ordered {
			if impl.EntryLess(a, b) != (i < j) {
				t.Fatal(a, b)
			}
		}
	}
}

// isShelfByPairs looks at each two entries.
func isShelfByPairs(list []impl.Entry) bool {
	for i, entry := range list {
		if min(entry.Print, entry.Doc, entry.At) < 0 || entry.Print >= prime {
			return false
		}
		for _, ahead := range list[:i] {
			if compareEntries(ahead, entry) >= 0 {
				return false
			}
		}
	}
	return true
}

func TestP106RowsOfUpToThreeEntries(t *testing.T) {
	numbers := []int{-1, 0, math.MaxInt}
	entries := entriesOf([]int{-1, 0, prime - 1, prime}, numbers, numbers)
	for _, a := range entries {
		for _, b := range entries {
			for _, c := range entries {
				list := []impl.Entry{a, b, c}
				for n := range 4 {
					if impl.ShelfOk(list[:n]) != isShelfByPairs(list[:n]) {
						t.Fatal(list[:n])
					}
				}
			}
		}
	}
}

func TestP106APartOfAShelfIsOne(t *testing.T) {
	if !impl.ShelfOk(nil) || !impl.ShelfOk([]impl.Entry{}) {
		t.Fatal("nothing is no shelf")
	}
	for _, list := range slices.Concat(smallShelves(), textShelves()) {
		if !impl.ShelfOk(list) {
			t.Fatal(list)
		}
	}
	d := &drawn{state: 12}
	for _, list := range longShelves() {
		for _, from := range []int{0, 1, len(list) / 2, len(list)} {
			for _, to := range []int{from, len(list) - 1, len(list)} {
				if !impl.ShelfOk(list[min(from, to):to]) {
					t.Fatal(list, from, to)
				}
			}
		}
		part := slices.DeleteFunc(slices.Clone(list), func(impl.Entry) bool { return d.below(2) == 0 })
		if !impl.ShelfOk(part) {
			t.Fatal(part)
		}
	}
}

func TestP106OtherEntriesAreNoShelf(t *testing.T) {
	for _, list := range noShelves() {
		if impl.ShelfOk(list) {
			t.Fatal(list)
		}
	}
	for _, list := range longShelves() {
		for _, i := range []int{0, len(list) / 2, len(list) - 1} {
			for _, entry := range noEntries() {
				other := slices.Clone(list)
				other[i] = entry
				if impl.ShelfOk(other) {
					t.Fatal(other)
				}
			}
			if impl.ShelfOk(slices.Insert(slices.Clone(list), i, list[i])) {
				t.Fatal(list[i], "twice")
			}
		}
	}
}

func checkShelfOf(t *testing.T, doc int, s string, k int, w int) {
	t.Helper()
	list := impl.ShelfOf(doc, s, k, w)
	if !isShelfByPairs(list) || !impl.ShelfOk(list) {
		t.Fatalf("%d, %q, %d, %d: %v", doc, s, k, w, list)
	}
	var marks []impl.Mark
	for _, entry := range list {
		if entry.Doc != doc {
			t.Fatalf("%d, %q, %d, %d: %v", doc, s, k, w, list)
		}
		marks = append(marks, impl.Mark{Print: entry.Print, At: entry.At})
	}
	slices.SortFunc(marks, func(a impl.Mark, b impl.Mark) int { return cmp.Compare(a.At, b.At) })
	if want := impl.MarksOf(s, k, w); !slices.Equal(marks, want) {
		t.Fatalf("%d, %q, %d, %d: %v, not %v", doc, s, k, w, marks, want)
	}
}

func TestP107TheShelfOfATextHasItsMarks(t *testing.T) {
	for _, s := range markTexts() {
		for _, size := range [][2]int{{1, 1}, {1, 2}, {2, 2}, {3, 1}, {1, len(s)}, {len(s), 1}} {
			for _, doc := range []int{0, 1, math.MaxInt} {
				checkShelfOf(t, doc, s, size[0], size[1])
			}
		}
	}
	for _, s := range longTexts() {
		for _, size := range [][2]int{{1, 1}, {1, 7}, {3, 4}, {1, len(s)}, {9, len(s) - 8}} {
			checkShelfOf(t, 5, s, size[0], size[1])
		}
	}
}

func TestP107ShelvesOfSomeTexts(t *testing.T) {
	cases := []struct {
		doc  int
		s    string
		k    int
		w    int
		list []impl.Entry
	}{
		{0, "", 1, 1, nil}, {3, "ab", 3, 1, nil}, {3, "ab", 1, 3, nil},
		{3, "ba", 1, 1, entryRow(98, 3, 1, 99, 3, 0)},
		{0, "abab", 2, 2, entryRow(25285, 0, 0, 25285, 0, 2)},
		{1, "cabc", 1, 1, entryRow(98, 1, 1, 99, 1, 2, 100, 1, 0, 100, 1, 3)},
		{math.MaxInt, "aaa", 1, 2, entryRow(98, math.MaxInt, 1, 98, math.MaxInt, 2)},
		{2, "\xff\x80\xff", 1, 1, entryRow(129, 2, 1, 256, 2, 0, 256, 2, 2)},
		{2, "b" + nullText + "b", 3, 3, entryRow(0, 2, 1)},
	}
	for _, c := range cases {
		if list := impl.ShelfOf(c.doc, c.s, c.k, c.w); !slices.Equal(list, c.list) {
			t.Fatalf("%d, %q, %d, %d: %v, not %v", c.doc, c.s, c.k, c.w, list, c.list)
		}
	}
}

func checkNoShelfOf(t *testing.T, doc int, s string, k int, w int) {
	t.Helper()
	if list := impl.ShelfOf(doc, s, k, w); len(list) != 0 {
		t.Fatalf("%d, %q, %d, %d: %v", doc, s, k, w, list)
	}
}

func TestP107NoShelfOf(t *testing.T) {
	for _, s := range fewTexts() {
		for _, doc := range []int{-1, -2, -1 << 40, math.MinInt + 1, math.MinInt} {
			checkNoShelfOf(t, doc, s, 1, 1)
			checkNoShelfOf(t, doc, s, 3, 2)
			checkNoShelfOf(t, doc, s, 0, 0)
		}
		for _, n := range []int{math.MinInt, -1, 0, len(s) + 1, math.MaxInt} {
			checkNoShelfOf(t, 0, s, n, 1)
			checkNoShelfOf(t, math.MaxInt, s, 1, n)
		}
	}
}

// The text is so long here that its marks are put in order in time only if not each one is compared with each other one.
func TestP107TheShelfOfALongText(t *testing.T) {
	d := &drawn{state: 13}
	s := drawnText(d, 1<<18, 2)
	list := impl.ShelfOf(4, s, 9, 1)
	if !impl.ShelfOk(list) || len(list) != len(s)-8 {
		t.Fatal(len(list))
	}
}

func checkShelfJoin(t *testing.T, a []impl.Entry, b []impl.Entry) {
	t.Helper()
	joined := impl.ShelfJoin(a, b)
	if want := shelfOfEntries(a, b); !slices.Equal(joined, want) {
		t.Fatalf("%v and %v: %v, not %v", a, b, joined, want)
	}
	if !impl.ShelfOk(joined) || !isShelfByPairs(joined) {
		t.Fatalf("%v and %v: %v", a, b, joined)
	}
	if turned := impl.ShelfJoin(b, a); !slices.Equal(turned, joined) {
		t.Fatalf("%v and %v: %v, but %v", a, b, joined, turned)
	}
}

func TestP108JustTheEntriesOfBoth(t *testing.T) {
	for _, shelves := range [][][]impl.Entry{smallShelves(), textShelves()} {
		for _, a := range shelves {
			for _, b := range shelves {
				checkShelfJoin(t, a, b)
			}
		}
	}
}

func TestP108SomeShelves(t *testing.T) {
	cases := []struct {
		a      []impl.Entry
		b      []impl.Entry
		joined []impl.Entry
	}{
		{nil, nil, nil}, {nil, entryRow(5, 1, 0), entryRow(5, 1, 0)},
		{entryRow(5, 1, 0), entryRow(5, 1, 0), entryRow(5, 1, 0)},
		{entryRow(5, 1, 0), entryRow(5, 0, 7), entryRow(5, 0, 7, 5, 1, 0)},
		{entryRow(5, 1, 0, 9, 1, 2), entryRow(7, 2, 0), entryRow(5, 1, 0, 7, 2, 0, 9, 1, 2)},
		// The same text is on both shelves, with the same marks and with others.
		{entryRow(5, 1, 0, 7, 1, 1), entryRow(5, 1, 0, 5, 1, 4, 9, 1, 2), entryRow(5, 1, 0, 5, 1, 4, 7, 1, 1, 9, 1, 2)},
		{entryRow(5, 1, 0, 5, 1, 1, 5, 1, 2), entryRow(5, 1, 1), entryRow(5, 1, 0, 5, 1, 1, 5, 1, 2)},
		{impl.ShelfOf(1, "ba", 1, 1), impl.ShelfOf(1, "bb", 1, 1), entryRow(98, 1, 1, 99, 1, 0, 99, 1, 1)},
		{impl.ShelfOf(1, "ba", 1, 1), impl.ShelfOf(2, "", 1, 1), entryRow(98, 1, 1, 99, 1, 0)},
		{impl.ShelfOf(2, "ba", 1, 1), impl.ShelfOf(1, "ba", 1, 1), entryRow(98, 1, 1, 98, 2, 1, 99, 1, 0, 99, 2, 0)},
	}
	for _, c := range cases {
		if joined := impl.ShelfJoin(c.a, c.b); !slices.Equal(joined, c.joined) {
			t.Fatalf("%v and %v: %v, not %v", c.a, c.b, joined, c.joined)
		}
		checkShelfJoin(t, c.a, c.b)
	}
}

func TestP108OneOfTwoIsNoShelf(t *testing.T) {
	shelves := append(textShelves(), nil, entryRow(0, 0, 0), entryRow(prime-1, math.MaxInt, math.MaxInt))
	for _, other := range noShelves() {
		for _, list := range append(shelves, other) {
			if joined := impl.ShelfJoin(other, list); len(joined) != 0 {
				t.Fatalf("%v and %v: %v", other, list, joined)
			}
			if joined := impl.ShelfJoin(list, other); len(joined) != 0 {
				t.Fatalf("%v and %v: %v", list, other, joined)
			}
		}
	}
}

// checkGroups looks at three shelves joined in all groups, and at one with itself and with nothing.
func checkGroups(t *testing.T, a []impl.Entry, b []impl.Entry, c []impl.Entry) {
	t.Helper()
	first := impl.ShelfJoin(impl.ShelfJoin(a, b), c)
	for _, joined := range [][]impl.Entry{
		impl.ShelfJoin(a, impl.ShelfJoin(b, c)), impl.ShelfJoin(impl.ShelfJoin(a, c), b), impl.ShelfJoin(impl.ShelfJoin(c, b), a),
	} {
		if !slices.Equal(first, joined) {
			t.Fatalf("%v and %v and %v: %v, but %v", a, b, c, first, joined)
		}
	}
}

func checkAsItIs(t *testing.T, list []impl.Entry) {
	t.Helper()
	for _, joined := range [][]impl.Entry{impl.ShelfJoin(list, list), impl.ShelfJoin(list, nil), impl.ShelfJoin(nil, list)} {
		if !slices.Equal(joined, list) {
			t.Fatalf("%v became %v", list, joined)
		}
	}
}

func checkTakenOff(t *testing.T, a []impl.Entry, b []impl.Entry, doc int) {
	t.Helper()
	joined := impl.ShelfLose(impl.ShelfJoin(a, b), doc)
	if both := impl.ShelfJoin(impl.ShelfLose(a, doc), impl.ShelfLose(b, doc)); !slices.Equal(joined, both) {
		t.Fatalf("%v and %v without %d: %v, but %v", a, b, doc, joined, both)
	}
}

func TestP8ShelvesAreJoinedInAnyOrder(t *testing.T) {
	few := allParts(entryRow(0, 0, 0, 0, 2, 1, 98, 0, 0, 98, 0, 1, prime-1, math.MaxInt, math.MaxInt))
	for _, shelves := range [][][]impl.Entry{few, textShelves()} {
		for _, a := range shelves {
			checkAsItIs(t, a)
			for _, b := range shelves {
				checkShelfJoin(t, a, b)
				for _, doc := range edgeDocs() {
					checkTakenOff(t, a, b, doc)
				}
				for _, c := range shelves {
					checkGroups(t, a, b, c)
				}
			}
		}
	}
}

func TestP230ShelvesAreJoinedInAnyOrderUpTo1000(t *testing.T) {
	shelves := longShelves()
	for i, a := range shelves {
		checkAsItIs(t, a)
		for j, b := range shelves {
			checkShelfJoin(t, a, b)
			checkGroups(t, a, b, shelves[(2*i+3*j+1)%len(shelves)])
			for _, doc := range append(edgeDocs(), a[len(a)/2].Doc, b[0].Doc) {
				checkTakenOff(t, a, b, doc)
			}
		}
	}
}

func checkLose(t *testing.T, list []impl.Entry, doc int) {
	t.Helper()
	var want []impl.Entry
	for _, entry := range list {
		if entry.Doc != doc {
			want = append(want, entry)
		}
	}
	left := impl.ShelfLose(list, doc)
	if !slices.Equal(left, want) || !impl.ShelfOk(left) {
		t.Fatalf("%v without %d: %v, not %v", list, doc, left, want)
	}
	if slices.Contains(impl.ShelfDocs(left), doc) || !slices.Equal(impl.ShelfLose(left, doc), left) {
		t.Fatalf("%v without %d: %v", list, doc, left)
	}
}

func TestP109ATextThatIsTakenOffIsGone(t *testing.T) {
	for _, list := range slices.Concat(smallShelves(), textShelves(), longShelves()) {
		for _, doc := range edgeDocs() {
			checkLose(t, list, doc)
		}
	}
}

func TestP109SomeTextsAreTakenOff(t *testing.T) {
	list := impl.ShelfJoin(impl.ShelfOf(2, "ba", 1, 1), impl.ShelfOf(7, "ac", 1, 1))
	cases := []struct {
		list []impl.Entry
		doc  int
		left []impl.Entry
	}{
		{nil, 0, nil}, {nil, -1, nil}, {nil, math.MinInt, nil}, {nil, math.MaxInt, nil},
		{list, 2, entryRow(98, 7, 0, 100, 7, 1)}, {list, 7, entryRow(98, 2, 1, 99, 2, 0)},
		{list, 0, list}, {list, 3, list}, {list, -1, list}, {list, -2, list}, {list, math.MaxInt, list}, {list, math.MinInt, list},
		{entryRow(5, 1, 0), 1, nil}, {entryRow(5, 0, 1), 1, entryRow(5, 0, 1)}, {entryRow(1, 0, 5), 1, entryRow(1, 0, 5)},
	}
	for _, c := range cases {
		if left := impl.ShelfLose(c.list, c.doc); !slices.Equal(left, c.left) {
			t.Fatalf("%v without %d: %v, not %v", c.list, c.doc, left, c.left)
		}
	}
}

// Behind a text that came and went the shelf is as it was ahead of it.
func TestP109ATextThatComesAndGoes(t *testing.T) {
	for _, list := range slices.Concat(textShelves(), longShelves()) {
		for _, s := range fewTexts() {
			without := impl.ShelfLose(list, 3)
			if left := impl.ShelfLose(impl.ShelfJoin(list, impl.ShelfOf(3, s, 1, 2)), 3); !slices.Equal(left, without) {
				t.Fatalf("%v and %q: %v", list, s, left)
			}
		}
	}
}

func TestP109NothingIsTakenOffWhatIsNoShelf(t *testing.T) {
	for _, list := range noShelves() {
		for _, doc := range edgeDocs() {
			if left := impl.ShelfLose(list, doc); len(left) != 0 {
				t.Fatalf("%v without %d: %v", list, doc, left)
			}
		}
	}
}

func checkFindOnShelf(t *testing.T, list []impl.Entry, print int) {
	t.Helper()
	var want []impl.Entry
	for _, entry := range list {
		if entry.Print == print {
			want = append(want, entry)
		}
	}
	if found := impl.ShelfFind(list, print); !slices.Equal(found, want) {
		t.Fatalf("%d on %v: %v, not %v", print, list, found, want)
	}
}

func TestP110AllEntriesWithAFingerprintAreFound(t *testing.T) {
	for _, list := range slices.Concat(smallShelves(), textShelves(), longShelves()) {
		for _, print := range edgePrints() {
			checkFindOnShelf(t, list, print)
		}
		for _, entry := range list {
			checkFindOnShelf(t, list, entry.Print)
			checkFindOnShelf(t, list, entry.Print-1)
			checkFindOnShelf(t, list, entry.Print+1)
		}
	}
}

// With all lengths, the halves end at each place.
func TestP110FoundOnShelvesOfAllLengths(t *testing.T) {
	var list []impl.Entry
	for n := range 40 {
		for print := -1; print <= 2*n+1; print++ {
			checkFindOnShelf(t, list, print)
		}
		list = append(list, impl.Entry{Print: 2 * n, Doc: 1, At: 40 - n})
		if n%3 == 0 {
			list = append(list, impl.Entry{Print: 2 * n, Doc: 1, At: 41}, impl.Entry{Print: 2 * n, Doc: 2, At: 0})
		}
	}
}

func TestP110SomeFingerprintsAreFound(t *testing.T) {
	list := impl.ShelfJoin(impl.ShelfOf(2, "bab", 1, 1), impl.ShelfOf(7, "ad", 1, 1))
	cases := []struct {
		list  []impl.Entry
		print int
		found []impl.Entry
	}{
		{nil, 0, nil}, {nil, math.MinInt, nil}, {nil, math.MaxInt, nil},
		{list, 98, entryRow(98, 2, 1, 98, 7, 0)}, {list, 99, entryRow(99, 2, 0, 99, 2, 2)}, {list, 101, entryRow(101, 7, 1)},
		{list, 97, nil}, {list, 100, nil}, {list, 102, nil}, {list, -1, nil}, {list, prime, nil}, {list, prime + 98, nil}, {list, 98 - prime, nil},
		{list, math.MinInt, nil}, {list, math.MaxInt, nil},
		{entryRow(0, 0, 0), 0, entryRow(0, 0, 0)}, {entryRow(prime-1, 0, 0), prime - 1, entryRow(prime-1, 0, 0)},
		{impl.ShelfJoin(impl.ShelfOf(1, "aAa", 3, 1), impl.ShelfOf(0, "xpeq", 3, 1)), impl.PrintOf("aAa"), entryRow(impl.PrintOf("peq"), 0, 1, impl.PrintOf("aAa"), 1, 0)},
	}
	for _, c := range cases {
		if found := impl.ShelfFind(c.list, c.print); !slices.Equal(found, c.found) {
			t.Fatalf("%d on %v: %v, not %v", c.print, c.list, found, c.found)
		}
	}
}

func TestP110NothingIsFoundOnWhatIsNoShelf(t *testing.T) {
	for _, list := range noShelves() {
		prints := edgePrints()
		for _, entry := range list {
			prints = append(prints, entry.Print)
		}
		for _, print := range prints {
			if found := impl.ShelfFind(list, print); len(found) != 0 {
				t.Fatalf("%d on %v: %v", print, list, found)
			}
		}
	}
}

// docsOneByOne returns the different texts of entries, ascending.
func docsOneByOne(list []impl.Entry) []int {
	var docs []int
	for _, entry := range list {
		if !slices.Contains(docs, entry.Doc) {
			docs = append(docs, entry.Doc)
		}
	}
	slices.Sort(docs)
	return docs
}

func TestP111TheTextsOfAShelf(t *testing.T) {
	for _, list := range slices.Concat(smallShelves(), textShelves(), longShelves()) {
		docs := impl.ShelfDocs(list)
		if want := docsOneByOne(list); !slices.Equal(docs, want) || !ascends(docs) {
			t.Fatalf("%v: %v, not %v", list, docs, want)
		}
	}
}

func TestP111TheTextsOfSomeShelves(t *testing.T) {
	cases := []struct {
		list []impl.Entry
		docs []int
	}{
		{nil, nil}, {entryRow(5, 0, 7), []int{0}}, {entryRow(5, math.MaxInt, 7), []int{math.MaxInt}},
		{entryRow(1, 9, 0, 2, 7, 0, 3, 8, 0, 4, 7, 0), []int{7, 8, 9}},
		{entryRow(1, 3, 0, 1, 3, 1, 2, 3, 0), []int{3}},
		{impl.ShelfJoin(impl.ShelfOf(4, "ba", 1, 1), impl.ShelfOf(2, "ca", 1, 1)), []int{2, 4}},
		// A text without marks is on no shelf.
		{impl.ShelfJoin(impl.ShelfOf(4, "ba", 1, 1), impl.ShelfOf(2, "", 1, 1)), []int{4}},
	}
	for _, c := range cases {
		if docs := impl.ShelfDocs(c.list); !slices.Equal(docs, c.docs) {
			t.Fatalf("%v: %v, not %v", c.list, docs, c.docs)
		}
	}
}

func TestP111WhatIsNoShelfHasNoTexts(t *testing.T) {
	for _, list := range noShelves() {
		if docs := impl.ShelfDocs(list); len(docs) != 0 {
			t.Fatalf("%v: %v", list, docs)
		}
	}
}

// marksOnShelf returns the marks of a text that are on a shelf.
func marksOnShelf(list []impl.Entry, doc int) []impl.Mark {
	var marks []impl.Mark
	for _, entry := range list {
		if entry.Doc == doc {
			marks = append(marks, impl.Mark{Print: entry.Print, At: entry.At})
		}
	}
	return marks
}

func checkAsk(t *testing.T, list []impl.Entry, marks []impl.Mark) {
	t.Helper()
	var want []impl.Share
	for _, doc := range docsOneByOne(list) {
		if many := len(impl.TwinsOf(marksOnShelf(list, doc), marks)); many > 0 {
			want = append(want, impl.Share{Doc: doc, Many: many})
		}
	}
	if shares := impl.ShelfAsk(list, marks); !slices.Equal(shares, want) {
		t.Fatalf("%v on %v: %v, not %v", marks, list, shares, want)
	}
}

// askedMarks returns rows of marks: none, ones with a fingerprint several times, not in order, and numbers that are no fingerprints.
func askedMarks() [][]impl.Mark {
	rows := append(edgeMarks(), markRow(0, 0, prime-1, 0), markRow(prime-1, 5, 0, 5, prime-1, 5), markRow(0, 0, 0, 0, 0, 0), markRow(prime, 0, -1, 0, math.MinInt, 0, math.MaxInt, 0))
	for _, s := range []string{"", "a", "abab", "peqaAa", "\xff\xff\x00", "under a new sea of stone"} {
		rows = append(rows, impl.MarksOf(s, 1, 2), impl.MarksOf(s, 3, 1))
	}
	return rows
}

func TestP9WhatIsSharedIsCountedByPairs(t *testing.T) {
	for _, list := range slices.Concat(smallShelves(), textShelves()) {
		for _, marks := range askedMarks() {
			checkAsk(t, list, marks)
		}
	}
}

// checkSharesOfTexts joins the shelves of texts, numbered from a number on, and asks for the marks of one more.
func checkSharesOfTexts(t *testing.T, docs []string, from int, s string, k int, w int) {
	t.Helper()
	marks := impl.MarksOf(s, k, w)
	var list []impl.Entry
	var want []impl.Share
	for i, doc := range docs {
		list = impl.ShelfJoin(impl.ShelfOf(from+i, doc, k, w), list)
		if many := len(impl.TwinsOf(impl.MarksOf(doc, k, w), marks)); many > 0 {
			want = append(want, impl.Share{Doc: from + i, Many: many})
		}
	}
	if shares := impl.ShelfAsk(list, marks); !slices.Equal(shares, want) {
		t.Fatalf("%q in %q, %d, %d: %v, not %v", s, docs, k, w, shares, want)
	}
}

func TestP9TwinsOfTheMarksOfTexts(t *testing.T) {
	texts := fewTexts()
	for _, s := range texts {
		for _, size := range [][2]int{{1, 1}, {1, 2}, {2, 2}, {3, 1}, {3, 4}} {
			checkSharesOfTexts(t, texts, 0, s, size[0], size[1])
		}
		checkSharesOfTexts(t, texts[:9], math.MaxInt-8, s, 1, 1)
	}
}

func TestP231WhatIsSharedIsCountedByPairsUpTo1000(t *testing.T) {
	d := &drawn{state: 14}
	rows := append(askedMarks(), markRow(slices.Repeat([]int{2, 0}, 1000)...), markRow(drawnNumbers(d, 2000, 9)...), markRow(drawnNumbers(d, 2000, 50)...), markRow(drawnNumbers(d, 2000, prime)...))
	for _, list := range longShelves() {
		for _, marks := range rows {
			checkAsk(t, list, marks)
		}
		checkAsk(t, list, marksOnShelf(list, list[0].Doc))
	}
	texts := longTexts()
	for _, gaps := range []int{0, 3, 9} {
		a, b := copyingTexts(d, gaps)
		for _, size := range [][2]int{{2, 3}, {5, 4}, {12, 12}} {
			checkSharesOfTexts(t, slices.Concat(texts[:12], []string{a, "", a}), 2, b, size[0], size[1])
		}
	}
}

func TestP9SomeMarksAreAsked(t *testing.T) {
	list := impl.ShelfJoin(impl.ShelfOf(2, "bab", 1, 1), impl.ShelfOf(7, "ad", 1, 1))
	cases := []struct {
		list   []impl.Entry
		marks  []impl.Mark
		shares []impl.Share
	}{
		{nil, nil, nil}, {list, nil, nil}, {nil, markRow(98, 0), nil},
		{list, markRow(98, 0), shareRow(2, 1, 7, 1)},
		{list, markRow(99, 0), shareRow(2, 2)},
		{list, markRow(101, 5), shareRow(7, 1)},
		{list, markRow(99, 0, 99, 1, 99, 1), shareRow(2, 6)},
		{list, markRow(101, 0, 99, 0, 98, 0), shareRow(2, 3, 7, 2)},
		{list, markRow(97, 0, 100, 0, 102, 0), nil},
		{list, markRow(-1, 0, prime, 0, prime+98, 0, 98-prime, 0, math.MinInt, 0, math.MaxInt, 0), nil},
		{list, markRow(98, math.MinInt, 98, math.MaxInt, 98, -1), shareRow(2, 3, 7, 3)},
		{entryRow(1, 9, 0, 2, 8, 0, 3, 7, 0), markRow(1, 0, 3, 0), shareRow(7, 1, 9, 1)},
		// The fingerprint 1 is neither the text 1 nor the place 1.
		{entryRow(0, 1, 0, 0, 2, 1), markRow(1, 0), nil},
		// Different pieces whose fingerprints meet are counted too.
		{impl.ShelfOf(1, "aAa", 3, 1), impl.MarksOf("xpeq", 3, 1), shareRow(1, 1)},
	}
	for _, c := range cases {
		if shares := impl.ShelfAsk(c.list, c.marks); !slices.Equal(shares, c.shares) {
			t.Fatalf("%v on %v: %v, not %v", c.marks, c.list, shares, c.shares)
		}
	}
}

func TestP9NothingIsSharedWithWhatIsNoShelf(t *testing.T) {
	for _, list := range noShelves() {
		rows := askedMarks()
		for _, entry := range list {
			rows = append(rows, markRow(entry.Print, entry.At))
		}
		for _, marks := range rows {
			if shares := impl.ShelfAsk(list, marks); len(shares) != 0 {
				t.Fatalf("%v on %v: %v", marks, list, shares)
			}
		}
	}
}

// There are so many pairs here that they are told in time only if not each one is looked at.
func TestP9ManyPairsAreCounted(t *testing.T) {
	n := 1 << 17
	var list []impl.Entry
	for i := range n {
		list = append(list, impl.Entry{Print: 5, Doc: i / 2, At: i % 2})
	}
	shares := impl.ShelfAsk(list, make([]impl.Mark, n))
	if len(shares) != 0 {
		t.Fatal(len(shares))
	}
	shares = impl.ShelfAsk(list, slices.Repeat(markRow(5, 0), n))
	for i, share := range shares {
		if len(shares) != n/2 || share.Doc != i || share.Many != 2*n {
			t.Fatal(len(shares), share)
		}
	}
}

func TestShelfListsOwnTheirMemory(t *testing.T) {
	otherEntry, otherShare := impl.Entry{Print: -7, Doc: -7, At: -7}, impl.Share{Doc: -7, Many: -7}
	for _, s := range []string{"", "a", "abab", "the sea of \xff the sea"} {
		checkListIsOwn(t, func() []impl.Entry { return impl.ShelfOf(1, s, 1, 1) }, otherEntry)
		checkListIsOwn(t, func() []impl.Entry { return impl.ShelfOf(1, s, 2, 3) }, otherEntry)
	}
	shelves := append(textShelves(), nil)
	for _, a := range shelves {
		for _, b := range append(shelves, noShelves()[0]) {
			checkListIsOwn(t, func() []impl.Entry { return impl.ShelfJoin(a, b) }, otherEntry)
		}
		for _, doc := range []int{-1, 1, 2, math.MaxInt} {
			checkListIsOwn(t, func() []impl.Entry { return impl.ShelfLose(a, doc) }, otherEntry)
		}
		for _, print := range []int{-1, 98, impl.PrintOf("aAa"), prime} {
			checkListIsOwn(t, func() []impl.Entry { return impl.ShelfFind(a, print) }, otherEntry)
		}
		checkListIsOwn(t, func() []int { return impl.ShelfDocs(a) }, -7)
		for _, marks := range askedMarks() {
			checkListIsOwn(t, func() []impl.Share { return impl.ShelfAsk(a, marks) }, otherShare)
		}
	}
}

func TestShelvesWriteToNoArgument(t *testing.T) {
	behind, other, otherShare := impl.Entry{Print: 98, Doc: 1, At: 1}, impl.Entry{Print: -7, Doc: -7, At: -7}, impl.Share{Doc: -7, Many: -7}
	lists := slices.Concat(textShelves(), longShelves()[:8], noShelves(), [][]impl.Entry{nil})
	for i, a := range lists {
		b := lists[(5*i+3)%len(lists)]
		checkListIsKept(t, a, behind, func(list []impl.Entry) []impl.Entry { return impl.ShelfJoin(list, b) }, other)
		checkListIsKept(t, a, behind, func(list []impl.Entry) []impl.Entry { return impl.ShelfJoin(b, list) }, other)
		checkListIsKept(t, a, behind, func(list []impl.Entry) []impl.Entry { return impl.ShelfJoin(list, list) }, other)
		checkListIsKept(t, a, behind, func(list []impl.Entry) []impl.Entry { return impl.ShelfJoin(list, nil) }, other)
		checkListIsKept(t, a, behind, func(list []impl.Entry) []impl.Entry { return impl.ShelfJoin(nil, list) }, other)
		for _, n := range []int{-1, 0, 1, 98, math.MaxInt} {
			checkListIsKept(t, a, behind, func(list []impl.Entry) []impl.Entry { return impl.ShelfLose(list, n) }, other)
			checkListIsKept(t, a, behind, func(list []impl.Entry) []impl.Entry { return impl.ShelfFind(list, n) }, other)
		}
		checkListIsKept(t, a, behind, impl.ShelfDocs, -7)
		checkListIsKept(t, a, behind, func(list []impl.Entry) []bool { return []bool{impl.ShelfOk(list)} }, false)
		for _, marks := range askedMarks() {
			checkListIsKept(t, a, behind, func(list []impl.Entry) []impl.Share { return impl.ShelfAsk(list, marks) }, otherShare)
			checkListIsKept(t, marks, impl.Mark{Print: 98, At: 1}, func(marks []impl.Mark) []impl.Share { return impl.ShelfAsk(a, marks) }, otherShare)
		}
	}
}

func TestShelvesOfTextsWriteToNoArgument(t *testing.T) {
	for _, s := range markTexts() {
		// The argument is part of a longer text, so that writing beside it is seen too.
		all := strings.Clone("ahead" + s + "behind")
		kept := strings.Clone(all)
		for _, size := range [][2]int{{0, 0}, {1, 1}, {1, 2}, {3, 2}, {len(s), 1}, {math.MaxInt, math.MaxInt}} {
			impl.ShelfOf(1, all[5:5+len(s)], size[0], size[1])
			impl.ShelfOf(-1, all[5:5+len(s)], size[0], size[1])
		}
		if all != kept {
			t.Fatalf("%q became %q", kept, all)
		}
	}
}
