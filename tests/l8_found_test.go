package tests

import (
	"cmp"
	"math"
	"slices"
	"strings"
	"testing"

	"loop.example/copiedtexts/impl"
)

var (
	_ func(string, string, int, int, int) []impl.Piece                 = impl.FoundBy
	_ func(string, string, int, int) int                               = impl.FalseTwins
	_ func([]string, int, int) []impl.Entry                            = impl.ShelfOfAll
	_ func([]impl.Entry, []string, string, int, int, int) []impl.Found = impl.AskShelf
	_ func([]string, string, int) []impl.Found                         = impl.AskAll
	_ struct {
		Doc int
		P   impl.Piece
	} = impl.Found{}
)

func foundRow(numbers ...int) []impl.Found {
	var list []impl.Found
	for i := 0; i < len(numbers); i += 4 {
		list = append(list, impl.Found{Doc: numbers[i], P: impl.Piece{A: numbers[i+1], B: numbers[i+2], Long: numbers[i+3]}})
	}
	return list
}

// meetingPairs returns texts with pieces of three, four and more bytes that are different and have one fingerprint: beside equal bytes, beside equal pieces, and below and from 128 on.
func meetingPairs() [][2]string {
	return [][2]string{
		{"aAa", "peq"}, {"xaAa", "xpeq"}, {"aAax", "peqx"}, {"xaAax", "xpeqx"}, {"aAapeq", "peqaAa"}, {"aAaaAa", "aAapeq"}, {"aAa peq aAa", "peq aAa peq"},
		{"the old `aAa", "the old `peq"}, {"the old aAa sea", "the old peq sea"}, {"aAaAa", "peqeq"}, {"\x80\x80\x80", "\x8f\xa4\x90"}, {"\xff\x80\x80\x80\xff", "\xff\x8f\xa4\x90\xff"},
		{nullText + "aAa", nullText + "peq"}, {strings.Repeat("aAa", 6), strings.Repeat("peq", 6)}, {strings.Repeat("aAapeq", 4), strings.Repeat("peqaAa", 4)},
	}
}

// textOfPieces returns a text of many pieces, some of which have one fingerprint.
func textOfPieces(d *drawn, most int) string {
	pieces := []string{"aAa", "peq", "AAA", "PeQ", "x", "\x80\x80\x80", "\x8f\xa4\x90", "the sea "}
	s := ""
	for len(s) < most {
		s += pieces[d.below(len(pieces))]
	}
	return s[:most]
}

// longMeetingPairs returns texts of up to 1000 bytes in which very many pieces that are different have one fingerprint.
func longMeetingPairs() [][2]string {
	d := &drawn{state: 31}
	var pairs [][2]string
	for _, n := range []int{60, 300, 1000} {
		a, b := textOfPieces(d, n), textOfPieces(d, n)
		pairs = append(pairs, [2]string{a, b}, [2]string{a, a}, [2]string{a, b[:n/3] + a[n/3:]})
	}
	return append(pairs, [2]string{strings.Repeat("aAa", 333), strings.Repeat("peq", 333)}, [2]string{strings.Repeat("aAapeq", 166), strings.Repeat("peqaAa", 166)})
}

// manyTwinPairs returns pairs of texts of up to 1000 bytes: those that have pieces in common, or nothing, and those whose pieces meet. Of the pairs with all twins that there can be one is enough, since they take long.
func manyTwinPairs() [][2]string {
	pairs := longPairs()
	return slices.Concat(pairs[:1], pairs[3:6], pairs[7:], longMeetingPairs())
}

// smallSizes returns numbers of bytes and of windows for short texts.
func smallSizes() [][2]int {
	return [][2]int{{1, 1}, {1, 2}, {2, 1}, {2, 2}, {1, 3}, {3, 1}, {3, 2}, {4, 1}, {2, 4}, {4, 5}, {4, 9}}
}

// markPlaces tells for each place of a text whether it has a mark.
func markPlaces(s string, k int, w int) []bool {
	places := make([]bool, len(s))
	for _, mark := range impl.MarksOf(s, k, w) {
		places[mark.At] = true
	}
	return places
}

// bothMarked reports whether two texts keep a mark of the same place in a piece.
func bothMarked(marksA []bool, marksB []bool, p impl.Piece, k int) bool {
	for at := 0; at+k <= p.Long; at++ {
		if marksA[p.A+at] && marksB[p.B+at] {
			return true
		}
	}
	return false
}

// foundByRules takes of all pieces in common those in which both texts keep a mark of the same place.
func foundByRules(a string, b string, k int, w int, n int) []impl.Piece {
	marksA, marksB := markPlaces(a, k, w), markPlaces(b, k, w)
	var list []impl.Piece
	for _, p := range piecesOnShifts(a, b, n) {
		if bothMarked(marksA, marksB, p, k) {
			list = append(list, p)
		}
	}
	slices.SortFunc(list, comparePieces)
	return list
}

func checkFoundBy(t *testing.T, a string, b string, k int, w int, n int) {
	t.Helper()
	list := impl.FoundBy(a, b, k, w, n)
	for i, p := range list {
		checkCanNotGrow(t, a, b, p)
		if p.Long < n || i > 0 && comparePieces(list[i-1], p) >= 0 {
			t.Fatalf("%q and %q, %d, %d, %d: %v", a, b, k, w, n, list)
		}
	}
	checkSamePieces(t, a, b, n, list, foundByRules(a, b, k, w, n))
	if sure := impl.SureLength(k, w); sure > 0 && n >= sure {
		checkSamePieces(t, a, b, n, list, impl.PiecesOf(a, b, n))
	}
}

func TestP14WhatMarksFindIsCopiedAndAllThatIsLongEnough(t *testing.T) {
	for _, pair := range slices.Concat(shortPairs(), meetingPairs()) {
		for _, size := range smallSizes() {
			sure := size[0] + size[1] - 1
			for n := 1; n <= sure+2; n++ {
				checkFoundBy(t, pair[0], pair[1], size[0], size[1], n)
			}
		}
	}
}

func TestP14WhatMarksOfNamedTextsFind(t *testing.T) {
	for _, pair := range textPairs(fewTexts()) {
		for _, size := range [][2]int{{1, 1}, {1, 2}, {3, 1}, {3, 4}, {40, 20}} {
			for _, n := range []int{1, size[0] + size[1] - 1, 100} {
				checkFoundBy(t, pair[0], pair[1], size[0], size[1], n)
			}
		}
	}
}

func TestP235WhatMarksFindUpTo1000(t *testing.T) {
	for _, pair := range manyTwinPairs() {
		long := max(len(pair[0]), 1)
		for _, size := range [][2]int{{1, 6}, {3, 4}, {20, 5}, {300, 3}, {long, 1}, {1, long}, {long/2 + 1, long/2 + 1}} {
			sure := size[0] + size[1] - 1
			checkFoundBy(t, pair[0], pair[1], size[0], size[1], 1)
			checkFoundBy(t, pair[0], pair[1], size[0], size[1], sure)
		}
	}
}

func TestP235WhatAllFingerprintsFindUpTo1000(t *testing.T) {
	for _, pair := range manyTwinPairs() {
		checkFoundBy(t, pair[0], pair[1], 3, 1, 3)
	}
}

func TestP14WhatMarksOfSomeTextsFind(t *testing.T) {
	cases := []struct {
		a    string
		b    string
		k    int
		w    int
		n    int
		list []impl.Piece
	}{
		// There is nothing, or nothing in common.
		{"", "", 1, 1, 1, nil}, {"a", "", 1, 1, 1, nil}, {"", "a", 1, 1, 1, nil}, {"abc", "xyz", 1, 1, 1, nil}, {"\x00", "\x80", 1, 1, 1, nil}, {"\x7f", "\xff", 1, 1, 1, nil},
		// Texts are equal.
		{"a", "a", 1, 1, 1, pieceRow(0, 0, 1)}, {"abc", "abc", 1, 3, 1, pieceRow(0, 0, 3)}, {"abc", "abc", 3, 1, 3, pieceRow(0, 0, 3)}, {"abc", "abc", 1, 1, 4, nil},
		{"aa", "aa", 1, 1, 1, pieceRow(0, 0, 2, 0, 1, 1, 1, 0, 1)}, {"aa", "aa", 1, 2, 1, pieceRow(0, 0, 2)}, {"aaa", "aaa", 1, 2, 1, pieceRow(0, 0, 3, 0, 1, 2, 1, 0, 2)},
		{"\xff\x80\xff\x80", "\xff\x80\xff\x80", 2, 1, 1, pieceRow(0, 0, 4, 0, 2, 2, 2, 0, 2)}, {"\x00\xff\x80", "\x00\xff\x80", 1, 3, 1, pieceRow(0, 0, 3)},
		// Pieces have a byte less than is sure, as many, and one more; what is shorter is found only by chance.
		{"ab", "bc", 1, 2, 1, nil}, {"abd", "bdc", 1, 2, 2, pieceRow(1, 0, 2)}, {"abde", "bdec", 1, 2, 2, pieceRow(1, 0, 3)}, {"Xa", "aY", 1, 2, 1, nil}, {"ca", "ab", 1, 2, 1, pieceRow(1, 0, 1)},
		{"xyab", "abcd", 3, 1, 1, nil}, {"xyabc", "abcde", 3, 1, 3, pieceRow(2, 0, 3)}, {"xyabcd", "abcde", 3, 1, 3, pieceRow(2, 0, 4)}, {"xyabc", "abcde", 3, 1, 1, pieceRow(2, 0, 3)}, {"xyabc", "abcde", 3, 1, 4, nil},
		{"azz", "zzb", 1, 3, 1, nil}, {"azzz", "zzzb", 1, 3, 3, pieceRow(1, 0, 3)}, {"AAbcd", "bcdef", 2, 3, 3, nil}, {"AAbcde", "bcdeff", 2, 3, 4, pieceRow(2, 0, 4)},
		// Places without a mark lead to nothing, though the bytes are the same.
		{"abXcd", "cdYab", 1, 5, 1, nil}, {"ab", "ab", 2, 2, 1, nil}, {"ab", "ab", 1, 3, 1, nil}, {"bab", "b", 1, 2, 1, nil},
		// Fewer bytes are asked for than pieces have by which marks are told, or more.
		{"abcX", "abcY", 2, 1, 1, pieceRow(0, 0, 3)}, {"abcX", "abcY", 2, 1, 3, pieceRow(0, 0, 3)}, {"abcX", "abcY", 2, 1, 4, nil}, {"abXa", "abYa", 2, 1, 1, pieceRow(0, 0, 2)},
		// The fingerprints meet, but the bytes are others, though equal ones may stand beside them.
		{"aAa", "peq", 3, 1, 1, nil}, {"xaAa", "xpeq", 4, 1, 1, nil}, {"aAax", "peqx", 4, 1, 1, nil}, {"xaAax", "xpeqx", 5, 1, 1, nil}, {"\x80\x80\x80", "\x8f\xa4\x90", 3, 1, 1, nil},
		{"the old `aAa", "the old `peq", 4, 9, 1, nil}, {"the old `aAa", "the old `aAa", 4, 9, 1, pieceRow(0, 0, 12)}, {"the old `aAa", "the old `peq", 4, 6, 1, pieceRow(0, 0, 9)},
		{"aAapeq", "peqaAa", 3, 1, 3, pieceRow(0, 3, 3, 3, 0, 3)}, {nullText + "aAa", nullText + "peq", 6, 1, 1, nil}, {nullText + "aAa", nullText + "peq", 3, 4, 1, pieceRow(0, 0, 3)},
		{"the old sea", "an old sea", 3, 4, 1, pieceRow(3, 2, 8)}, {"Sea", "sea", 2, 1, 1, pieceRow(1, 1, 2)},
	}
	for _, c := range cases {
		if list := impl.FoundBy(c.a, c.b, c.k, c.w, c.n); !slices.Equal(list, c.list) {
			t.Fatalf("%q and %q, %d, %d, %d: %v, not %v", c.a, c.b, c.k, c.w, c.n, list, c.list)
		}
	}
}

// sizesBelow1 are numbers of bytes and of fingerprints that there are not.
func sizesBelow1() []int {
	return []int{math.MinInt, math.MinInt + 1, -1000, -2, -1, 0}
}

// checkForOtherSizes looks at sizes below 1, and at such that are greater than some texts.
func checkForOtherSizes(t *testing.T, long int, isNothing func(k int, w int, n int) bool) {
	t.Helper()
	for _, less := range append(sizesBelow1(), long+1, long+2, 5000, 1<<40, math.MaxInt-1, math.MaxInt) {
		for _, other := range []int{math.MinInt, -1, 0, 1, 2, long, long + 1, math.MaxInt} {
			if !isNothing(less, 1, other) || !isNothing(1, less, other) || !isNothing(other, less, 1) || !isNothing(less, other, 1) || !isNothing(other, 1, less) || !isNothing(1, other, less) {
				t.Fatal("sizes", less, other)
			}
		}
	}
}

func TestP14NothingIsFoundWithOtherSizes(t *testing.T) {
	for _, pair := range slices.Concat(meetingPairs(), [][2]string{{strings.Repeat("ab", 30), strings.Repeat("ba", 40)}, {"", ""}, {"a", ""}, {"", "a"}, {"a", "a"}, {"abab", "ab"}, {"ab", "abab"}, {"\xff\x80", "\xff\x80\xff"}}) {
		a, b := pair[0], pair[1]
		checkForOtherSizes(t, min(len(a), len(b)), func(k int, w int, n int) bool { return len(impl.FoundBy(a, b, k, w, n)) == 0 })
	}
}

// A piece is grown around so many twins here that all is told in time only if it is not grown around each.
func TestP14APieceWithManyTwinsIsGrownOnce(t *testing.T) {
	d := &drawn{state: 32}
	s := drawnText(d, 1<<19, 2)
	if list := impl.FoundBy(s, s, 20, 50, 69); !slices.Equal(list, pieceRow(0, 0, len(s))) {
		t.Fatal(len(list))
	}
}

// falseByCounting takes the pairs of the same bytes off those of the same fingerprint.
func falseByCounting(a string, b string, k int, w int) int {
	marksA, marksB := impl.MarksOf(a, k, w), impl.MarksOf(b, k, w)
	counts := map[string]int{}
	for _, mark := range marksA {
		counts[a[mark.At:mark.At+k]]++
	}
	count := countTwins(marksA, marksB)
	for _, mark := range marksB {
		count -= counts[b[mark.At:mark.At+k]]
	}
	return count
}

// piecesMeet reports whether there are two different pieces of k bytes with one fingerprint in texts.
func piecesMeet(k int, texts ...string) bool {
	seen := map[int]string{}
	for _, s := range texts {
		for at, print := range impl.PrintsOf(s, k) {
			if other, ok := seen[print]; ok && other != s[at:at+k] {
				return true
			}
			seen[print] = s[at : at+k]
		}
	}
	return false
}

// checkLeads counts the twins that lead to a piece, by the pieces in which their k bytes are.
func checkLeads(t *testing.T, a string, b string, k int, w int) {
	t.Helper()
	twins, found := impl.TwinsOf(impl.MarksOf(a, k, w), impl.MarksOf(b, k, w)), impl.FoundBy(a, b, k, w, 1)
	count := 0
	for _, twin := range twins {
		pieces := countHaving(found, twin.A, twin.B, k)
		if want := a[twin.A:twin.A+k] == b[twin.B:twin.B+k]; pieces > 1 || (pieces == 1) != want {
			t.Fatalf("%q and %q, %d, %d: %v leads to %d pieces", a, b, k, w, twin, pieces)
		}
		count += 1 - pieces
	}
	if n := impl.FalseTwins(a, b, k, w); n != count {
		t.Fatalf("%q and %q, %d, %d: %d false twins, but %d lead to no piece", a, b, k, w, n, count)
	}
}

func checkFalseTwins(t *testing.T, a string, b string, k int, w int) {
	t.Helper()
	n := impl.FalseTwins(a, b, k, w)
	if n != falseByCounting(a, b, k, w) || n != impl.FalseTwins(b, a, k, w) {
		t.Fatalf("%q and %q, %d, %d: %d, not %d", a, b, k, w, n, falseByCounting(a, b, k, w))
	}
	if n != 0 && !piecesMeet(k, a, b) {
		t.Fatalf("%q and %q, %d, %d: %d, but no pieces meet", a, b, k, w, n)
	}
	if n := impl.FalseTwins(a, a, k, w); n != 0 && !piecesMeet(k, a) {
		t.Fatalf("%q with itself, %d, %d: %d, but no pieces meet", a, k, w, n)
	}
}

func TestP120TwinsAreFalseOrLeadToAPiece(t *testing.T) {
	for _, pair := range slices.Concat(shortPairs(), meetingPairs()) {
		for _, size := range smallSizes() {
			checkFalseTwins(t, pair[0], pair[1], size[0], size[1])
			checkLeads(t, pair[0], pair[1], size[0], size[1])
			checkLeads(t, pair[0], pair[0], size[0], size[1])
		}
	}
}

func TestP120TwinsOfLongTexts(t *testing.T) {
	for _, pair := range manyTwinPairs() {
		for _, size := range [][2]int{{3, 2}, {4, 7}, {30, 20}} {
			checkFalseTwins(t, pair[0], pair[1], size[0], size[1])
		}
		a, b := pair[0][:min(len(pair[0]), 200)], pair[1][:min(len(pair[1]), 200)]
		checkLeads(t, a, b, 3, 20)
		checkLeads(t, a, b, 3, 4)
	}
}

func TestP120FalseTwinsOfSomeTexts(t *testing.T) {
	cases := []struct {
		a     string
		b     string
		k     int
		w     int
		count int
	}{
		{"", "", 1, 1, 0}, {"a", "", 1, 1, 0}, {"", "a", 1, 1, 0}, {"a", "a", 1, 1, 0}, {"abab", "baba", 2, 1, 0}, {"abc", "xyz", 1, 1, 0}, {"\x80", "\x00", 1, 1, 0},
		{"aAa", "peq", 3, 1, 1}, {"peq", "aAa", 3, 1, 1}, {"aAa", "aAa", 3, 1, 0}, {"aAa", "peq", 1, 1, 0}, {"aAa", "peq", 2, 1, 0}, {"\x80\x80\x80", "\x8f\xa4\x90", 3, 1, 1},
		{"xaAa", "xpeq", 4, 1, 1}, {"xaAa", "xpeq", 3, 1, 1}, {"aAax", "peqx", 4, 1, 1}, {"the old `aAa", "the old `peq", 4, 9, 1}, {"the old `aAa", "the old `peq", 4, 6, 1},
		{"aAapeq", "aAapeq", 3, 1, 2}, {"aAapeq", "peqaAa", 3, 1, 2}, {"aAaaAa", "peq", 3, 1, 2}, {"aAaaAa", "peqpeq", 6, 1, 1}, {"aAapeqaAa", "peq", 3, 1, 2}, {"aAa aAa", "peq peq", 3, 1, 4},
		// With windows one of the marks that meet is not kept.
		{"aAaaA", "peq", 3, 3, 0}, {"aAa", "peq", 3, 2, 0},
	}
	for _, c := range cases {
		if n := impl.FalseTwins(c.a, c.b, c.k, c.w); n != c.count {
			t.Fatalf("%q and %q, %d, %d: %d, not %d", c.a, c.b, c.k, c.w, n, c.count)
		}
	}
}

func TestP120NoFalseTwinsWithOtherSizes(t *testing.T) {
	for _, pair := range append(meetingPairs(), [2]string{"", ""}, [2]string{"", "aAa"}, [2]string{"aAa", ""}, [2]string{strings.Repeat("aAa", 333), strings.Repeat("peq", 333)}) {
		a, b := pair[0], pair[1]
		long := min(len(a), len(b))
		for _, less := range append(sizesBelow1(), long+1, long+2, 5000, 1<<40, math.MaxInt-1, math.MaxInt) {
			for _, other := range []int{math.MinInt, -1, 0, 1, 2, 3, long, long + 1, math.MaxInt} {
				if impl.FalseTwins(a, b, less, other) != 0 || impl.FalseTwins(a, b, other, less) != 0 {
					t.Fatalf("%q and %q, %d, %d", a, b, less, other)
				}
			}
		}
	}
}

// checkShelfOfAll joins the shelves one by one, and takes the marks of each text off the shelf again.
func checkShelfOfAll(t *testing.T, docs []string, k int, w int) {
	t.Helper()
	shelf := impl.ShelfOfAll(docs, k, w)
	if !impl.ShelfOk(shelf) {
		t.Fatalf("%q, %d, %d: %v", docs, k, w, shelf)
	}
	var joined []impl.Entry
	entries := 0
	for i, s := range docs {
		joined = impl.ShelfJoin(impl.ShelfOf(i, s, k, w), joined)
		marks := marksOnShelf(shelf, i)
		slices.SortFunc(marks, func(a impl.Mark, b impl.Mark) int { return cmp.Compare(a.At, b.At) })
		if want := impl.MarksOf(s, k, w); !slices.Equal(marks, want) {
			t.Fatalf("%q, %d, %d: %v of text %d, not %v", docs, k, w, marks, i, want)
		}
		entries += len(marks)
	}
	if !slices.Equal(shelf, joined) || entries != len(shelf) {
		t.Fatalf("%q, %d, %d: %v, not %v", docs, k, w, shelf, joined)
	}
}

// rowsOf returns all rows of at most most texts.
func rowsOf(texts []string, most int) [][]string {
	rows := [][]string{nil}
	begin := 0
	for n := 1; n <= most; n++ {
		end := len(rows)
		for _, row := range rows[begin:end] {
			for _, s := range texts {
				rows = append(rows, append(slices.Clone(row), s))
			}
		}
		begin = end
	}
	return rows
}

// docRows returns rows of texts: no texts, texts of no bytes, equal ones, such with nothing in common, with pieces that meet, and with bytes from 128 on.
func docRows() [][]string {
	rows := rowsOf([]string{"", "ab", "bab", "aAapeq", "xpeq", "\xff\x80\xff", "the old `aAa"}, 2)
	return append(rows, []string{"", "", ""}, []string{"abab", "abab", "abab"}, []string{"abc", "xyz", "\x80\xff", "123"}, []string{"aAa", "peq", "aAa", "xaAa"},
		[]string{"on the old sea of stones", "nothing here"}, []string{"", "sea", "", "a sea", ""}, allTexts("ab", 3), slices.Repeat([]string{"ab", "ba"}, 20))
}

func TestP121TheShelfOfAllTextsHasTheMarksOfEach(t *testing.T) {
	for _, docs := range docRows() {
		for _, size := range smallSizes() {
			checkShelfOfAll(t, docs, size[0], size[1])
		}
	}
	for _, size := range [][2]int{{1, 9}, {3, 4}, {20, 30}} {
		checkShelfOfAll(t, longTexts(), size[0], size[1])
	}
}

func TestP121ShelvesOfSomeTexts(t *testing.T) {
	cases := []struct {
		docs  []string
		k     int
		w     int
		shelf []impl.Entry
	}{
		{nil, 1, 1, nil}, {[]string{}, 1, 1, nil}, {[]string{""}, 1, 1, nil}, {[]string{"", ""}, 1, 1, nil}, {[]string{"ab", "b"}, 3, 1, nil}, {[]string{"ab", "b"}, 1, 3, nil},
		{[]string{"ab", "b"}, 1, 1, entryRow(98, 0, 0, 99, 0, 1, 99, 1, 0)}, {[]string{"b", "ab"}, 1, 1, entryRow(98, 1, 0, 99, 0, 0, 99, 1, 1)},
		{[]string{"", "b", "", "b"}, 1, 1, entryRow(99, 1, 0, 99, 3, 0)}, {[]string{"b", "ab"}, 2, 1, entryRow(25285, 1, 0)}, {[]string{"bab", "cabb"}, 1, 2, entryRow(98, 0, 1, 98, 1, 1, 99, 1, 3)},
		{[]string{"aAa", "xpeq"}, 3, 1, entryRow(impl.PrintOf("xpe"), 1, 0, impl.PrintOf("aAa"), 0, 0, impl.PrintOf("peq"), 1, 1)}, {[]string{"\xff\x80"}, 1, 1, entryRow(129, 0, 1, 256, 0, 0)},
	}
	for _, c := range cases {
		if shelf := impl.ShelfOfAll(c.docs, c.k, c.w); !slices.Equal(shelf, c.shelf) {
			t.Fatalf("%q, %d, %d: %v, not %v", c.docs, c.k, c.w, shelf, c.shelf)
		}
	}
}

func TestP121NoShelfWithOtherSizes(t *testing.T) {
	for _, docs := range docRows() {
		long := 0
		for _, s := range docs {
			long = max(long, len(s))
		}
		for _, less := range append(sizesBelow1(), long+1, long+2, 1<<40, math.MaxInt-1, math.MaxInt) {
			for _, other := range []int{math.MinInt, -1, 0, 1, 2, long, math.MaxInt} {
				if len(impl.ShelfOfAll(docs, less, other)) != 0 || len(impl.ShelfOfAll(docs, other, less)) != 0 {
					t.Fatalf("%q, %d, %d", docs, less, other)
				}
			}
		}
	}
}

// partOf returns the pieces that are found in one of the texts.
func partOf(list []impl.Found, doc int) []impl.Piece {
	var pieces []impl.Piece
	for _, found := range list {
		if found.Doc == doc {
			pieces = append(pieces, found.P)
		}
	}
	return pieces
}

// foundIn puts the number of a text to pieces.
func foundIn(doc int, pieces []impl.Piece) []impl.Found {
	var list []impl.Found
	for _, p := range pieces {
		list = append(list, impl.Found{Doc: doc, P: p})
	}
	return list
}

// checkSameFound tells only where two lists differ first, since there may be very many pieces.
func checkSameFound(t *testing.T, docs []string, s string, list []impl.Found, want []impl.Found) {
	t.Helper()
	at := 0
	for at < len(list) && at < len(want) && list[at] == want[at] {
		at++
	}
	if at < len(list) || at < len(want) {
		t.Fatalf("%q in %q: %d pieces, not %d, and from %d on %v, not %v", s, docs, len(list), len(want), at, list[at:min(len(list), at+3)], want[at:min(len(want), at+3)])
	}
}

func checkAskShelf(t *testing.T, docs []string, s string, k int, w int, n int) {
	t.Helper()
	list := impl.AskShelf(impl.ShelfOfAll(docs, k, w), docs, s, k, w, n)
	var want []impl.Found
	for i, doc := range docs {
		want = append(want, foundIn(i, impl.FoundBy(doc, s, k, w, n))...)
	}
	checkSameFound(t, docs, s, list, want)
	if sure := impl.SureLength(k, w); sure > 0 && n >= sure {
		checkSameFound(t, docs, s, list, impl.AskAll(docs, s, n))
	}
}

// askedTexts returns texts that are asked for: of all kinds, and such that meet what rows of texts have.
func askedTexts() []string {
	return append([]string{"", "a", "ab", "abab", "babbab", "xyz", "peq", "xaAa", "aAaaAa", "the old `peq", "under a new sea of stone", "\x80\xff\x80\xff"}, allBytes(), strings.Repeat("ab", 30))
}

func TestP15AskedByTheShelfAllThatIsCopiedIsTold(t *testing.T) {
	for _, docs := range docRows() {
		for _, s := range append(askedTexts(), docs...) {
			for _, size := range smallSizes() {
				sure := size[0] + size[1] - 1
				for _, n := range []int{1, sure - 1, sure, sure + 1} {
					checkAskShelf(t, docs, s, size[0], size[1], max(n, 1))
				}
			}
		}
	}
	for _, s := range fewTexts() {
		checkAskShelf(t, fewTexts(), s, 1, 2, 1)
		checkAskShelf(t, fewTexts(), s, 3, 1, 3)
	}
}

// longDocs returns rows of up to 1000 bytes in all that a text may be copied from, of up to 1000 texts.
func longDocs() [][]string {
	d := &drawn{state: 33}
	var many []string
	for i := range 1000 {
		many = append(many, textOfPieces(d, i%13))
	}
	a, b := copyingTexts(d, 2)
	c := textOfPieces(d, 1000)
	return [][]string{many, {a, "", b, a, c[:300]}, {c, c[500:] + c[:500], strings.Repeat("aAapeq", 166)}, {strings.Repeat("a", 300), strings.Repeat("ab", 500)}, longTexts()[2:12]}
}

func TestP236AskedByTheShelfUpTo1000(t *testing.T) {
	d := &drawn{state: 34}
	for _, docs := range longDocs() {
		a, b := docs[0], docs[len(docs)-1]
		for _, s := range []string{"", b[:len(b)/2] + a[len(a)/3:], textOfPieces(d, 1000), strings.Repeat("a", 600)} {
			for _, size := range [][2]int{{2, 9}, {3, 4}, {20, 20}} {
				sure := size[0] + size[1] - 1
				for _, n := range []int{1, sure} {
					checkAskShelf(t, docs, s, size[0], size[1], n)
				}
			}
		}
	}
}

func TestP15WhatIsFoundInSomeTexts(t *testing.T) {
	sea := []string{"on the old sea of stones", "nothing here", "", "a new sea"}
	meet := []string{"aAa", "peq", "", "xaAa"}
	cases := []struct {
		docs []string
		s    string
		k    int
		w    int
		n    int
		list []impl.Found
	}{
		{nil, "", 1, 1, 1, nil}, {nil, "abc", 1, 1, 1, nil}, {[]string{""}, "abc", 1, 1, 1, nil}, {[]string{"", ""}, "", 1, 1, 1, nil}, {[]string{"abc"}, "", 1, 1, 1, nil}, {[]string{"abc", "xyz"}, "123", 1, 1, 1, nil},
		{sea, "under a new sea of stone", 3, 4, 6, foundRow(0, 10, 11, 13, 3, 0, 6, 9)}, {sea, "under a new sea of stone", 3, 4, 10, foundRow(0, 10, 11, 13)}, {sea, "under a new sea of stone", 3, 4, 14, nil},
		{[]string{"ab", "ab"}, "ab", 1, 1, 1, foundRow(0, 0, 0, 2, 1, 0, 0, 2)}, {[]string{"b", "ab"}, "aab", 1, 1, 1, foundRow(0, 0, 2, 1, 1, 0, 0, 1, 1, 0, 1, 2)},
		{[]string{"aa", "a"}, "aa", 1, 1, 1, foundRow(0, 0, 0, 2, 0, 0, 1, 1, 0, 1, 0, 1, 1, 0, 0, 1, 1, 0, 1, 1)}, {[]string{"aa", "a"}, "aa", 1, 1, 2, foundRow(0, 0, 0, 2)},
		{[]string{"ab", "abd"}, "bdc", 1, 2, 1, foundRow(1, 1, 0, 2)}, {[]string{"\xff\x80", "\x80\xff"}, "\x80\xff", 2, 1, 1, foundRow(1, 0, 0, 2)},
		// The fingerprints meet, but the bytes are others.
		{meet, "peq", 3, 1, 1, foundRow(1, 0, 0, 3)}, {meet, "xpeq", 4, 1, 1, nil}, {meet, "xaAa", 4, 1, 1, foundRow(3, 0, 0, 4)}, {meet, "aAa", 3, 1, 1, foundRow(0, 0, 0, 3, 3, 1, 0, 3)},
	}
	for _, c := range cases {
		if list := impl.AskShelf(impl.ShelfOfAll(c.docs, c.k, c.w), c.docs, c.s, c.k, c.w, c.n); !slices.Equal(list, c.list) {
			t.Fatalf("%q in %q, %d, %d, %d: %v, not %v", c.s, c.docs, c.k, c.w, c.n, list, c.list)
		}
	}
}

func TestP15NothingIsToldWithOtherSizes(t *testing.T) {
	for _, docs := range [][]string{nil, {""}, {"a", "a"}, {"abab", "", "aAapeq"}, {"\xff\x80\xff", "the old sea"}} {
		for _, s := range []string{"", "a", "abab", "aAapeq", "\xff\x80\xff"} {
			// The shelf is one of the texts, so that only the sizes that are asked with are others.
			for _, size := range [][2]int{{1, 1}, {2, 2}, {3, 1}} {
				shelf := impl.ShelfOfAll(docs, size[0], size[1])
				checkForOtherSizes(t, len(s), func(k int, w int, n int) bool { return len(impl.AskShelf(shelf, docs, s, k, w, n)) == 0 })
			}
		}
	}
}

// A shelf is asked in time here only if not all texts are looked at for each mark, and each piece is grown once.
func TestP15ALongTextIsFoundAmongManyTexts(t *testing.T) {
	d := &drawn{state: 35}
	long := drawnText(d, 1<<20, 2)
	var docs []string
	for range 1 << 16 {
		docs = append(docs, drawnText(d, 40, 2))
	}
	docs = append(docs, long, long[1000:], "")
	shelf := impl.ShelfOfAll(docs, 20, 10)
	n := 1 << 16
	if list := impl.AskShelf(shelf, docs, long, 20, 10, 1000); !slices.Equal(list, foundRow(n, 0, 0, len(long), n+1, 0, 1000, len(long)-1000)) {
		t.Fatal(len(list))
	}
	if list := impl.AskShelf(shelf, docs, docs[77], 20, 10, 40); !slices.Equal(list, foundRow(77, 0, 0, 40)) {
		t.Fatal(len(list))
	}
}

// askByRules takes of all pieces in common those in which a mark of the text is on the shelf, at its place in the other one.
func askByRules(shelf []impl.Entry, docs []string, s string, k int, w int, n int) []impl.Found {
	marks := impl.MarksOf(s, k, w)
	var list []impl.Found
	for i, doc := range docs {
		for _, p := range piecesByShifts(doc, s, n) {
			told := slices.ContainsFunc(marks, func(mark impl.Mark) bool {
				inPiece := mark.At >= p.B && mark.At+k <= p.B+p.Long
				return inPiece && slices.Contains(shelf, impl.Entry{Print: mark.Print, Doc: i, At: p.A + mark.At - p.B})
			})
			if told {
				list = append(list, impl.Found{Doc: i, P: p})
			}
		}
	}
	return list
}

// checkAskOther asks a shelf that need not be that of the texts.
func checkAskOther(t *testing.T, shelf []impl.Entry, docs []string, s string, k int, w int, n int) {
	t.Helper()
	list := impl.AskShelf(shelf, docs, s, k, w, n)
	for _, found := range list {
		if found.Doc < 0 || found.Doc >= len(docs) || found.P.Long < n {
			t.Fatalf("%q in %q, %d, %d, %d by %v: %v", s, docs, k, w, n, shelf, found)
		}
		checkCanNotGrow(t, docs[found.Doc], s, found.P)
	}
	checkSameFound(t, docs, s, list, askByRules(shelf, docs, s, k, w, n))
}

// wrongShelves returns shelves with entries that texts have not: of the marks of a text, with all texts and places, and numbers of texts and places that there are not.
func wrongShelves(docs []string, s string, k int, w int) [][]impl.Entry {
	var prints, places []int
	for _, mark := range impl.MarksOf(s, k, w) {
		prints = append(prints, mark.Print)
	}
	for at := range 14 {
		places = append(places, at)
	}
	places = append(places, 1<<40, math.MaxInt-1, math.MaxInt)
	some := append(slices.Clone(prints), 0, 98, prime-1)
	all := shelfOfEntries(entriesOf(some, []int{0, 1, 2, 3, 1 << 40, math.MaxInt - 1, math.MaxInt}, places))
	d := &drawn{state: 36}
	part := slices.DeleteFunc(slices.Clone(all), func(impl.Entry) bool { return d.below(4) > 0 })
	turned := slices.Clone(docs)
	slices.Reverse(turned)
	more := append(slices.Clone(docs), s, s)
	return [][]impl.Entry{
		nil, all, part, impl.ShelfOfAll(docs, k, w), impl.ShelfOfAll(turned, k, w), impl.ShelfOfAll(more, k, w), impl.ShelfOfAll(docs, k+1, w), impl.ShelfOfAll(docs, k, w+1), impl.ShelfOf(math.MaxInt, s, k, w),
		impl.ShelfLose(impl.ShelfOfAll(docs, k, w), 0), shelfOfEntries(part, impl.ShelfOfAll(docs, k, w)),
	}
}

func TestP122AShelfWithWrongEntriesTellsNothingThatIsNotSo(t *testing.T) {
	rows := [][]string{nil, {""}, {"abab"}, {"ab", "bab", ""}, {"aAapeq", "xpeq", "peqaAa"}, {"\xff\x80\xff", "\x80"}, {"the old `aAa", "the old `peq"}, {"on the old sea", "a new sea", "sea", "s"}}
	for _, docs := range rows {
		for _, s := range []string{"", "a", "abab", "peqaAa", "xaAax", "the old `peq", "an old sea", "\x80\xff\x80"} {
			for _, size := range smallSizes() {
				for _, shelf := range wrongShelves(docs, s, size[0], size[1]) {
					for _, n := range []int{1, size[0] + 1, 5} {
						checkAskOther(t, shelf, docs, s, size[0], size[1], n)
					}
				}
			}
		}
	}
}

func TestP122LongShelvesOfOtherTexts(t *testing.T) {
	d := &drawn{state: 37}
	a, b := copyingTexts(d, 2)
	c := textOfPieces(d, 400)
	docs := []string{a[:500], c, b[:400]}
	for _, s := range []string{b, c[100:] + a[200:], a} {
		for _, size := range [][2]int{{3, 4}, {3, 9}, {6, 10}} {
			k, w := size[0], size[1]
			for _, shelf := range [][]impl.Entry{impl.ShelfOfAll([]string{c, b, a}, k, w), impl.ShelfOfAll([]string{a, b, c, s}, k, w), impl.ShelfOfAll(docs, k, 1), drawnShelf(d, 1000, prime, 3, 500)} {
				checkAskOther(t, shelf, docs, s, k, w, 1)
				checkAskOther(t, shelf, docs, s, k, w, 30)
			}
		}
	}
}

func TestP122WhatSomeShelvesTell(t *testing.T) {
	docs := []string{"abab", "cab"}
	ab, ba := impl.PrintOf("ab"), impl.PrintOf("ba")
	cases := []struct {
		shelf []impl.Entry
		s     string
		n     int
		list  []impl.Found
	}{
		{nil, "ab", 1, nil}, {entryRow(ab, 0, 0), "ab", 1, foundRow(0, 0, 0, 2)}, {entryRow(ab, 0, 2), "ab", 1, foundRow(0, 2, 0, 2)}, {entryRow(ab, 1, 1), "ab", 1, foundRow(1, 1, 0, 2)}, {entryRow(ab, 1, 1), "ab", 3, nil},
		// One entry of a piece is enough, and all lead to the same one.
		{entryRow(ab, 0, 0, ab, 0, 2, ba, 0, 1), "abab", 4, foundRow(0, 0, 0, 4)}, {entryRow(ba, 0, 1), "abab", 1, foundRow(0, 0, 0, 4)}, {entryRow(ab, 0, 2), "abab", 1, foundRow(0, 0, 0, 4, 0, 2, 0, 2)},
		// At the end of a text, and beyond it, there are no two bytes any more.
		{entryRow(ab, 0, 3), "ab", 1, nil}, {entryRow(ab, 0, 4), "ab", 1, nil}, {entryRow(ab, 0, 5), "ab", 1, nil}, {entryRow(ab, 1, 2), "ab", 1, nil}, {entryRow(ab, 1, 3), "ab", 1, nil}, {entryRow(ab, 0, math.MaxInt-1), "ab", 1, nil}, {entryRow(ab, 0, math.MaxInt), "ab", 1, nil},
		// There are no such texts.
		{entryRow(ab, 2, 0), "ab", 1, nil}, {entryRow(ab, 3, 0), "ab", 1, nil}, {entryRow(ab, math.MaxInt, 0), "ab", 1, nil}, {entryRow(ab, math.MaxInt, math.MaxInt), "ab", 1, nil}, {entryRow(ab, 0, 0, ab, 2, 0, ab, math.MaxInt, 1), "ab", 1, foundRow(0, 0, 0, 2)},
		// Other bytes stand there than the fingerprint tells.
		{entryRow(ab, 0, 1), "ab", 1, nil}, {entryRow(ab, 1, 0), "ab", 1, nil}, {entryRow(ba, 0, 0), "ab", 1, nil}, {entryRow(ba, 0, 0), "ba", 1, nil}, {entryRow(0, 0, 0), "ab", 1, nil},
		// The entry of a text that is no mark of it leads to what is so.
		{entryRow(ab, 0, 1, ab, 0, 2, ab, 1, 0), "ab", 1, foundRow(0, 2, 0, 2)},
		// They are no shelf.
		{entryRow(ba, 0, 1, ab, 0, 0), "abab", 1, nil}, {entryRow(ab, 0, 0, ab, 0, 0), "ab", 1, nil}, {entryRow(ab, 0, 2, ab, 0, 0), "ab", 1, nil}, {entryRow(ab, 1, 1, ab, 0, 0), "ab", 1, nil},
		{entryRow(ab, 0, -1, ab, 0, 0), "ab", 1, nil}, {entryRow(ab, -1, 0, ab, 0, 0), "ab", 1, nil}, {entryRow(-1, 0, 0, ab, 0, 0), "ab", 1, nil}, {entryRow(ab, 0, 0, prime, 0, 0), "ab", 1, nil}, {entryRow(ab, math.MinInt, 0), "ab", 1, nil}, {entryRow(ab, 0, math.MinInt), "ab", 1, nil},
	}
	for _, c := range cases {
		if list := impl.AskShelf(c.shelf, docs, c.s, 2, 1, c.n); !slices.Equal(list, c.list) {
			t.Fatalf("%q by %v, %d: %v, not %v", c.s, c.shelf, c.n, list, c.list)
		}
	}
}

func TestP122WhatIsNoShelfTellsNothing(t *testing.T) {
	docs := []string{"the old `aAa", "ab", "abab", "\xff\x80"}
	for _, s := range append(docs, "a", "") {
		for _, size := range [][2]int{{1, 1}, {2, 1}, {4, 9}} {
			good := impl.ShelfOfAll(docs, size[0], size[1])
			lists := noShelves()
			for i, entry := range good {
				lists = append(lists, slices.Insert(slices.Clone(good), i, entry))
			}
			for _, entry := range noEntries() {
				lists = append(lists, append(slices.Clone(good), entry), append([]impl.Entry{entry}, good...))
			}
			for _, list := range lists {
				if found := impl.AskShelf(list, docs, s, size[0], size[1], 1); len(found) != 0 {
					t.Fatalf("%q by %v: %v", s, list, found)
				}
			}
		}
	}
}

// checkAskAll looks at each text by itself.
func checkAskAll(t *testing.T, docs []string, s string, n int) {
	t.Helper()
	list := impl.AskAll(docs, s, n)
	var want []impl.Found
	for i, doc := range docs {
		pieces := piecesByShifts(doc, s, n)
		want = append(want, foundIn(i, pieces)...)
		checkSamePieces(t, doc, s, n, partOf(list, i), impl.PiecesOf(doc, s, n))
		checkSamePieces(t, doc, s, n, partOf(impl.AskAll(docs[i:i+1], s, n), 0), pieces)
	}
	checkSameFound(t, docs, s, list, want)
}

func TestP123WhatIsToldOfAllTextsIsToldOfEach(t *testing.T) {
	for _, docs := range docRows() {
		for _, s := range append(askedTexts(), docs...) {
			for n := 1; n <= 5; n++ {
				checkAskAll(t, docs, s, n)
			}
			checkAskAll(t, docs, s, len(s)+1)
		}
	}
	d := &drawn{state: 38}
	for _, docs := range longDocs() {
		for _, s := range []string{docs[len(docs)-1], textOfPieces(d, 1000), strings.Repeat("a", 1000)} {
			checkAskAll(t, docs, s, 4)
		}
	}
}

func TestP123WhatAllOfSomeTextsHave(t *testing.T) {
	cases := []struct {
		docs []string
		s    string
		n    int
		list []impl.Found
	}{
		{nil, "", 1, nil}, {nil, "ab", 1, nil}, {[]string{""}, "", 1, nil}, {[]string{"", ""}, "ab", 1, nil}, {[]string{"ab"}, "", 1, nil}, {[]string{"abc", "xyz"}, "123", 1, nil},
		{[]string{"ab", "ab"}, "ab", 2, foundRow(0, 0, 0, 2, 1, 0, 0, 2)}, {[]string{"aa", "", "a"}, "aa", 1, foundRow(0, 0, 0, 2, 0, 0, 1, 1, 0, 1, 0, 1, 2, 0, 0, 1, 2, 0, 1, 1)}, {[]string{"aa", "", "a"}, "aa", 2, foundRow(0, 0, 0, 2)}, {[]string{"aa", "", "a"}, "aa", 3, nil},
		{[]string{"a sea", "the sea"}, "a sea, the", 3, foundRow(0, 0, 0, 5, 1, 0, 7, 3, 1, 3, 1, 4)}, {[]string{"aAa", "peq"}, "aAa", 1, foundRow(0, 0, 0, 3, 0, 0, 2, 1, 0, 2, 0, 1)}, {[]string{"\x80", "\xff\x80"}, "\xff\x80", 1, foundRow(0, 0, 1, 1, 1, 0, 0, 2)},
	}
	for _, c := range cases {
		if list := impl.AskAll(c.docs, c.s, c.n); !slices.Equal(list, c.list) {
			t.Fatalf("%q in %q, %d: %v, not %v", c.s, c.docs, c.n, list, c.list)
		}
	}
}

func TestP123NothingIsToldOfOtherNumbers(t *testing.T) {
	for _, docs := range append(docRows(), []string{strings.Repeat("a", 1000)}) {
		for _, s := range append(askedTexts(), docs...) {
			for _, n := range append(sizesBelow1(), len(s)+1, len(s)+2, 5000, 1<<40, math.MaxInt-1, math.MaxInt) {
				if list := impl.AskAll(docs, s, n); len(list) != 0 {
					t.Fatalf("%q in %q, %d: %v", s, docs, n, list)
				}
			}
		}
	}
}

// So many texts are put on a shelf here that it is made in time only if it is not gone through for each of them.
func TestP121TheShelfOfManyTexts(t *testing.T) {
	d := &drawn{state: 39}
	docs := make([]string, 1<<18)
	for i := range docs {
		docs[i] = drawnText(d, 6, 2)
	}
	if shelf := impl.ShelfOfAll(docs, 4, 1); !impl.ShelfOk(shelf) || len(shelf) != 3*len(docs) {
		t.Fatal(len(shelf))
	}
}

func TestFoundListsOwnTheirMemory(t *testing.T) {
	otherPiece, otherEntry, otherFound := impl.Piece{A: -7, B: -7, Long: -7}, impl.Entry{Print: -7, Doc: -7, At: -7}, impl.Found{Doc: -7}
	for _, pair := range append(meetingPairs(), [2]string{"", ""}, [2]string{"abab", "ab"}, [2]string{"a", "a"}, [2]string{strings.Repeat("ab", 50), strings.Repeat("ba", 40)}) {
		docs := []string{pair[0], "", pair[1]}
		for _, size := range [][3]int{{0, 0, 0}, {1, 1, 1}, {3, 1, 1}, {3, 1, 3}, {2, 4, 1}} {
			k, w, n := size[0], size[1], size[2]
			shelf := impl.ShelfOfAll(docs, k, w)
			checkListIsOwn(t, func() []impl.Piece { return impl.FoundBy(pair[0], pair[1], k, w, n) }, otherPiece)
			checkListIsOwn(t, func() []impl.Entry { return impl.ShelfOfAll(docs, k, w) }, otherEntry)
			checkListIsOwn(t, func() []impl.Found { return impl.AskShelf(shelf, docs, pair[1], k, w, n) }, otherFound)
			checkListIsOwn(t, func() []impl.Found { return impl.AskAll(docs, pair[1], n) }, otherFound)
		}
	}
}

func TestAskingWritesToNoArgument(t *testing.T) {
	behindEntry, otherEntry, otherFound := impl.Entry{Print: 98, Doc: 0, At: 1}, impl.Entry{Print: -7, Doc: -7, At: -7}, impl.Found{Doc: -7}
	for _, docs := range docRows() {
		for _, s := range []string{"", "abab", "peqaAa", "the old `peq", "\xff\x80"} {
			for _, size := range [][3]int{{0, 0, 0}, {1, 1, 1}, {3, 1, 1}, {4, 9, 5}, {1, 2, -1}} {
				k, w, n := size[0], size[1], size[2]
				for _, shelf := range [][]impl.Entry{impl.ShelfOfAll(docs, k, w), noShelves()[1], entryRow(98, 0, 0, 98, 5, 0, 99, 0, 7)} {
					checkListIsKept(t, shelf, behindEntry, func(list []impl.Entry) []impl.Found { return impl.AskShelf(list, docs, s, k, w, n) }, otherFound)
					checkListIsKept(t, docs, "abab", func(list []string) []impl.Found { return impl.AskShelf(shelf, list, s, k, w, n) }, otherFound)
				}
				checkListIsKept(t, docs, "abab", func(list []string) []impl.Entry { return impl.ShelfOfAll(list, k, w) }, otherEntry)
				checkListIsKept(t, docs, "abab", func(list []string) []impl.Found { return impl.AskAll(list, s, n) }, otherFound)
			}
		}
	}
}

func TestFindingWritesToNoText(t *testing.T) {
	for _, pair := range slices.Concat(shortPairs(), meetingPairs(), [][2]string{{strings.Repeat("ab", 50), strings.Repeat("ba", 40)}}) {
		// The arguments are parts of a longer text, so that writing beside them is seen too.
		all := strings.Clone("ahead" + pair[0] + "between" + pair[1] + "behind")
		kept := strings.Clone(all)
		from := 5 + len(pair[0]) + 7
		a, b := all[5:5+len(pair[0])], all[from:from+len(pair[1])]
		for _, size := range [][3]int{{0, 0, 0}, {1, 2, 1}, {3, 1, 1}, {math.MaxInt, math.MaxInt, math.MaxInt}} {
			k, w, n := size[0], size[1], size[2]
			scribbled(impl.FoundBy(a, b, k, w, n), impl.Piece{A: -7, B: -7, Long: -7})
			impl.FalseTwins(a, b, k, w)
			scribbled(impl.AskShelf(impl.ShelfOfAll([]string{a, b}, k, w), []string{a, b}, b, k, w, n), impl.Found{Doc: -7})
			scribbled(impl.AskAll([]string{a, b}, b, n), impl.Found{Doc: -7})
		}
		if all != kept {
			t.Fatalf("%q became %q", kept, all)
		}
	}
}
