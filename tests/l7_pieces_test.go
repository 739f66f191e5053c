package tests

import (
	"cmp"
	"math"
	"slices"
	"strings"
	"testing"

	"loop.example/copiedtexts/impl"
)

var (
	_ func(string, string, impl.Piece) bool             = impl.PieceOk
	_ func(string, string, int, int) (impl.Piece, bool) = impl.GrowPiece
	_ func(string, string, int) []impl.Piece            = impl.PiecesOf
	_ func(impl.Piece, int, int, int) bool              = impl.PieceHas
	_ func(string, string) impl.Piece                   = impl.LongestPiece
	_ func([]impl.Piece) []impl.Piece                   = impl.TurnedPieces
	_ struct{ A, B, Long int }                          = impl.Piece{}
)

func pieceRow(numbers ...int) []impl.Piece {
	var list []impl.Piece
	for i := 0; i < len(numbers); i += 3 {
		list = append(list, impl.Piece{A: numbers[i], B: numbers[i+1], Long: numbers[i+2]})
	}
	return list
}

func comparePieces(p impl.Piece, q impl.Piece) int {
	return cmp.Or(cmp.Compare(p.A, q.A), cmp.Compare(p.B, q.B), cmp.Compare(p.Long, q.Long))
}

// piecesOfNumbers returns all pieces whose three numbers are among some.
func piecesOfNumbers(numbers []int) []impl.Piece {
	var list []impl.Piece
	for _, a := range numbers {
		for _, b := range numbers {
			for _, long := range numbers {
				list = append(list, impl.Piece{A: a, B: b, Long: long})
			}
		}
	}
	return list
}

// edgePlaces returns places and numbers of bytes of which two together are more than the largest int, and such that are below 0.
func edgePlaces() []int {
	return []int{math.MinInt, math.MinInt + 1, -1, 0, 1, 2, 1 << 62, math.MaxInt - 1, math.MaxInt}
}

// textPairs returns all pairs of some texts.
func textPairs(texts []string) [][2]string {
	var pairs [][2]string
	for _, a := range texts {
		for _, b := range texts {
			pairs = append(pairs, [2]string{a, b})
		}
	}
	return pairs
}

// shortPairs returns pairs of texts so short that all their places and lengths can be tried.
func shortPairs() [][2]string {
	return slices.Concat(textPairs(allTexts("ab", 5)), textPairs(allTexts("\x00\x80\xff", 3)), [][2]string{
		{"the sea", "a sea, the"}, {"a sea, the", "the sea"}, {"abcab", "cabx"}, {"aaaaaa", "aaaaaaa"}, {"ababab", "bababa"}, {"abcabc", "abcabc"},
		{"abX", "abY"}, {"Xab", "Yab"}, {"abX", "Yab"}, {"Xab", "abY"}, {"Sea", "sea"}, {"\xc3\x84\xc3\x9c", "\xc3\x9c\xc3\x84"},
		{"abcdef", "ghijkl"}, {"aAapeq", "peqaAa"}, {"abaabaaba", "aabaab"},
	})
}

// longPairs returns pairs of texts of up to 1000 bytes: equal ones, such that repeat a piece, that have drawn pieces in common, many pieces, or nothing.
func longPairs() [][2]string {
	d := &drawn{state: 25}
	same := strings.Repeat("a", 1000)
	pairs := [][2]string{
		{same, same}, {same, same[:999]}, {same[:500], same}, {same, ""}, {"", same}, {same, strings.Repeat("b", 1000)}, {same, "b" + same[:998] + "b"},
		{strings.Repeat("ab", 500), strings.Repeat("ba", 500)}, {strings.Repeat("abc", 333), strings.Repeat("abd", 333)}, {allBytes(), allBytes() + allBytes()},
	}
	for _, gaps := range []int{0, 2, 9} {
		a, b := copyingTexts(d, gaps)
		pairs = append(pairs, [2]string{a, b}, [2]string{a, a})
	}
	for _, alphabet := range []string{"\x7f\x80", "abcd", allBytes()} {
		a, b := textOfBytes(d, alphabet, 1000), textOfBytes(d, alphabet, 990)
		pairs = append(pairs, [2]string{a, b}, [2]string{a[:700], a[300:]}, [2]string{b[:400] + a[:200] + b[400:790], a})
	}
	return pairs
}

// piecesOnShifts lays one text beside the other one in all ways, and cuts where there are different bytes.
func piecesOnShifts(a string, b string, n int) []impl.Piece {
	var list []impl.Piece
	for shift := 1 - len(b); shift < len(a); shift++ {
		end := min(len(a), shift+len(b))
		long := 0
		for at := max(shift, 0); at <= end; at++ {
			if at < end && a[at] == b[at-shift] {
				long++
				continue
			}
			if long >= n {
				list = append(list, impl.Piece{A: at - long, B: at - long - shift, Long: long})
			}
			long = 0
		}
	}
	return list
}

func piecesByShifts(a string, b string, n int) []impl.Piece {
	list := piecesOnShifts(a, b, n)
	slices.SortFunc(list, comparePieces)
	return list
}

// isPieceByRules has one bit more for sums than an int.
func isPieceByRules(a string, b string, p impl.Piece) bool {
	if p.A < 0 || p.B < 0 || p.Long < 1 {
		return false
	}
	if uint64(p.A)+uint64(p.Long) > uint64(len(a)) || uint64(p.B)+uint64(p.Long) > uint64(len(b)) {
		return false
	}
	return strings.HasPrefix(b[p.B:], a[p.A:p.A+p.Long])
}

// hasByRules has one bit more for sums than an int.
func hasByRules(p impl.Piece, i int, j int, n int) bool {
	if min(p.A, p.B, p.Long, i, j, n) < 0 || n == 0 || i < p.A || j < p.B {
		return false
	}
	beside := uint64(i)+uint64(p.B) == uint64(j)+uint64(p.A)
	return beside && uint64(i)+uint64(n) <= uint64(p.A)+uint64(p.Long)
}

// checkCanNotGrow looks at the bytes ahead of a piece and behind it.
func checkCanNotGrow(t *testing.T, a string, b string, p impl.Piece) {
	t.Helper()
	if !isPieceByRules(a, b, p) {
		t.Fatalf("%q and %q: %v is none", a, b, p)
	}
	ahead := p.A > 0 && p.B > 0 && a[p.A-1] == b[p.B-1]
	behind := p.A+p.Long < len(a) && p.B+p.Long < len(b) && a[p.A+p.Long] == b[p.B+p.Long]
	if ahead || behind {
		t.Fatalf("%q and %q: %v can be made longer", a, b, p)
	}
}

// checkSamePieces tells only where two lists differ first, since there may be very many pieces.
func checkSamePieces(t *testing.T, a string, b string, n int, list []impl.Piece, want []impl.Piece) {
	t.Helper()
	at := 0
	for at < len(list) && at < len(want) && list[at] == want[at] {
		at++
	}
	if at < len(list) || at < len(want) {
		t.Fatalf("%q and %q, %d: %d pieces, not %d, and from %d on %v, not %v", a, b, n, len(list), len(want), at, list[at:min(len(list), at+3)], want[at:min(len(want), at+3)])
	}
}

// checkPieces looks at each of the pieces of n bytes or more by itself, and whether they are all that there are.
func checkPieces(t *testing.T, a string, b string, n int) []impl.Piece {
	t.Helper()
	list := impl.PiecesOf(a, b, n)
	for i, p := range list {
		checkCanNotGrow(t, a, b, p)
		if !impl.PieceOk(a, b, p) || p.Long < n {
			t.Fatalf("%q and %q, %d: %v", a, b, n, p)
		}
		if i > 0 && cmp.Or(cmp.Compare(list[i-1].A, p.A), cmp.Compare(list[i-1].B, p.B)) >= 0 {
			t.Fatalf("%q and %q, %d: %v ahead of %v", a, b, n, list[i-1], p)
		}
	}
	checkSamePieces(t, a, b, n, list, piecesByShifts(a, b, n))
	return list
}

func countHaving(list []impl.Piece, i int, j int, n int) int {
	count := 0
	for _, p := range list {
		if impl.PieceHas(p, i, j, n) {
			count++
		}
	}
	return count
}

// checkInOnePiece looks at one pair of places, of which it is known how many bytes are in common from them on.
func checkInOnePiece(t *testing.T, a string, b string, list []impl.Piece, i int, j int, n int, common int) {
	t.Helper()
	want := 0
	if common >= n {
		want = 1
	}
	if count := countHaving(list, i, j, n); count != want {
		t.Fatalf("%q and %q: %d bytes at %d and %d are in %d pieces", a, b, n, i, j, count)
	}
}

func TestP12WhatTwoTextsHaveInCommonIsInOnePiece(t *testing.T) {
	for _, pair := range shortPairs() {
		a, b := pair[0], pair[1]
		for n := 1; n <= max(len(a), len(b))+1; n++ {
			list := checkPieces(t, a, b, n)
			for i := range len(a) + 1 {
				for j := range len(b) + 1 {
					checkInOnePiece(t, a, b, list, i, j, n, inCommon(a, b, i, j))
				}
			}
		}
	}
}

func TestP12PiecesOfNamedTexts(t *testing.T) {
	for _, pair := range textPairs(fewTexts()) {
		for _, n := range []int{1, 2, 3, 7, len(pair[0])} {
			if n > 0 {
				checkPieces(t, pair[0], pair[1], n)
			}
		}
	}
}

// commonTable tells how many bytes two texts have in common from each pair of places on.
func commonTable(a string, b string) [][]int {
	table := make([][]int, len(a)+1)
	table[len(a)] = make([]int, len(b)+1)
	for i := len(a) - 1; i >= 0; i-- {
		table[i] = make([]int, len(b)+1)
		for j := len(b) - 1; j >= 0; j-- {
			if a[i] == b[j] {
				table[i][j] = table[i+1][j+1] + 1
			}
		}
	}
	return table
}

// checkAllInOnePiece counts for each pair of places the pieces that have the n bytes from there on.
func checkAllInOnePiece(t *testing.T, a string, b string, list []impl.Piece, n int, table [][]int) {
	t.Helper()
	counts := make([][]int, len(a)+1)
	for i := range counts {
		counts[i] = make([]int, len(b)+1)
	}
	for _, p := range list {
		for at := 0; at+n <= p.Long; at++ {
			counts[p.A+at][p.B+at]++
		}
	}
	for i := range counts {
		for j, count := range counts[i] {
			if count > 1 || (count == 1) != (table[i][j] >= n) {
				t.Fatalf("%q and %q: %d bytes at %d and %d are in %d pieces", a, b, n, i, j, count)
			}
		}
	}
}

func TestP234WhatTwoTextsHaveInCommonIsInOnePieceUpTo1000(t *testing.T) {
	d := &drawn{state: 26}
	for _, pair := range longPairs() {
		a, b := pair[0], pair[1]
		table := commonTable(a, b)
		for _, n := range []int{1, 2, 5, 17, 300, 999, 1000} {
			list := checkPieces(t, a, b, n)
			checkAllInOnePiece(t, a, b, list, n, table)
			for range 10 {
				i, j := d.below(len(a)+1), d.below(len(b)+1)
				checkInOnePiece(t, a, b, list, i, j, n, table[i][j])
			}
		}
	}
}

func TestP12PiecesOfSomeTexts(t *testing.T) {
	cases := []struct {
		a    string
		b    string
		n    int
		list []impl.Piece
	}{
		// There is nothing, or nothing in common.
		{"", "", 1, nil}, {"a", "", 1, nil}, {"", "a", 1, nil}, {"a", "b", 1, nil}, {"abc", "xyz", 1, nil}, {"\x00", "\x80", 1, nil}, {"\x7f", "\xff", 1, nil},
		// Texts are equal.
		{"a", "a", 1, pieceRow(0, 0, 1)}, {"abc", "abc", 1, pieceRow(0, 0, 3)}, {"abc", "abc", 3, pieceRow(0, 0, 3)}, {"abc", "abc", 4, nil},
		{"aa", "aa", 1, pieceRow(0, 0, 2, 0, 1, 1, 1, 0, 1)}, {"aa", "aa", 2, pieceRow(0, 0, 2)}, {"abab", "abab", 1, pieceRow(0, 0, 4, 0, 2, 2, 2, 0, 2)},
		{"\x00\xff\x80", "\x00\xff\x80", 2, pieceRow(0, 0, 3)},
		// Pieces overlap.
		{"aaa", "aa", 1, pieceRow(0, 0, 2, 0, 1, 1, 1, 0, 2, 2, 0, 1)}, {"aaa", "aa", 2, pieceRow(0, 0, 2, 1, 0, 2)},
		{"ababa", "aba", 1, pieceRow(0, 0, 3, 0, 2, 1, 2, 0, 3, 4, 0, 1)}, {"ababa", "aba", 3, pieceRow(0, 0, 3, 2, 0, 3)}, {"aba", "ababa", 3, pieceRow(0, 0, 3, 0, 2, 3)},
		{"abc", "bcab", 2, pieceRow(0, 2, 2, 1, 0, 2)}, {"\x00\xff\x00", "\xff\x00\xff", 2, pieceRow(0, 1, 2, 1, 0, 2)},
		// Pieces stand at the beginnings and ends.
		{"abX", "abY", 1, pieceRow(0, 0, 2)}, {"Xab", "Yab", 1, pieceRow(1, 1, 2)}, {"abX", "Yab", 1, pieceRow(0, 1, 2)}, {"Xab", "abY", 1, pieceRow(1, 0, 2)},
		{"abXcd", "abYYcd", 2, pieceRow(0, 0, 2, 3, 4, 2)}, {"abXcd", "cdYab", 2, pieceRow(0, 3, 2, 3, 0, 2)}, {"ab", "XabY", 2, pieceRow(0, 1, 2)}, {"XabY", "ab", 2, pieceRow(1, 0, 2)},
		{"a", "aXa", 1, pieceRow(0, 0, 1, 0, 2, 1)}, {"aXa", "a", 1, pieceRow(0, 0, 1, 2, 0, 1)},
		// Nothing is made alike, and bytes are no letters.
		{"Sea", "sea", 1, pieceRow(1, 1, 2)}, {"a  b", "a b", 2, pieceRow(0, 0, 2, 2, 1, 2)}, {"\xc3\x84", "\xc3\x9c", 1, pieceRow(0, 0, 1)},
		// The fingerprints meet, but the bytes are others.
		{"aAa", "peq", 1, nil},
		{"the sea", "a sea, the", 3, pieceRow(0, 7, 3, 3, 1, 4)}, {"the sea", "a sea, the", 4, pieceRow(3, 1, 4)}, {"the sea", "a sea, the", 5, nil},
	}
	for _, c := range cases {
		if list := impl.PiecesOf(c.a, c.b, c.n); !slices.Equal(list, c.list) {
			t.Fatalf("%q and %q, %d: %v, not %v", c.a, c.b, c.n, list, c.list)
		}
	}
}

func TestP12NoPiecesOfOtherNumbers(t *testing.T) {
	for _, pair := range slices.Concat(shortPairs(), longPairs()[:7]) {
		a, b := pair[0], pair[1]
		most := min(len(a), len(b))
		for _, n := range []int{math.MinInt, math.MinInt + 1, -1000, -2, -1, 0, most + 1, len(a) + 1, len(b) + 1, 5000, 1 << 40, math.MaxInt - 1, math.MaxInt} {
			if n < 1 || n > most {
				checkSamePieces(t, a, b, n, impl.PiecesOf(a, b, n), nil)
			}
		}
	}
}

// Here the pieces are found in time only if each one is grown once, and not from each of its places.
func TestP12PiecesOfLongEqualTexts(t *testing.T) {
	const many = 16000
	same := strings.Repeat("a", many)
	if list := impl.PiecesOf(same, same, 1); len(list) != 2*many-1 || list[0] != (impl.Piece{Long: many}) || list[many] != (impl.Piece{A: 1, Long: many - 1}) {
		t.Fatal(len(list))
	}
	if list := impl.PiecesOf(same, same, many); !slices.Equal(list, pieceRow(0, 0, many)) {
		t.Fatal(list)
	}
	if p := impl.LongestPiece(same, "b"+same); p != (impl.Piece{B: 1, Long: many}) {
		t.Fatal(p)
	}
}

func turnedByRules(list []impl.Piece) []impl.Piece {
	var turned []impl.Piece
	for _, p := range list {
		turned = append(turned, impl.Piece{A: p.B, B: p.A, Long: p.Long})
	}
	slices.SortFunc(turned, comparePieces)
	return slices.Compact(turned)
}

func checkTurned(t *testing.T, a string, b string, n int) {
	t.Helper()
	list := impl.PiecesOf(a, b, n)
	turned := impl.TurnedPieces(list)
	checkSamePieces(t, b, a, n, turned, impl.PiecesOf(b, a, n))
	checkSamePieces(t, a, b, n, impl.TurnedPieces(turned), list)
}

func TestP13PiecesOfTheTextsTheOtherWayRound(t *testing.T) {
	for _, pair := range slices.Concat(shortPairs(), textPairs(fewTexts())) {
		for _, n := range []int{-1, 0, 1, 2, 3, 5, len(pair[0]), math.MaxInt} {
			checkTurned(t, pair[0], pair[1], n)
		}
	}
	for _, pair := range longPairs() {
		for _, n := range []int{1, 3, 20, 998} {
			checkTurned(t, pair[0], pair[1], n)
		}
	}
}

func checkSameRow(t *testing.T, list []impl.Piece, answer []impl.Piece, want []impl.Piece) {
	t.Helper()
	if slices.Equal(answer, want) {
		return
	}
	if len(list) > 1000 {
		t.Fatalf("%d pieces: %d, not %d, or others", len(list), len(answer), len(want))
	}
	t.Fatalf("%v: %v, not %v", list, answer, want)
}

func checkTurnedRow(t *testing.T, list []impl.Piece) {
	t.Helper()
	turned := impl.TurnedPieces(list)
	checkSameRow(t, list, turned, turnedByRules(list))
	// What is turned twice is as it was, but in order, each once.
	inOrder := slices.Clone(list)
	slices.SortFunc(inOrder, comparePieces)
	checkSameRow(t, list, impl.TurnedPieces(turned), slices.Compact(inOrder))
}

// drawnPieces returns n pieces in no order, with numbers below a few, so that many are there several times.
func drawnPieces(d *drawn, n int, below int) []impl.Piece {
	return pieceRow(drawnNumbers(d, 3*n, below)...)
}

// edgePieceRows returns rows of pieces that are in order, in the other one and in none, that are there several times, that have equal places and different lengths, and numbers that no piece has.
func edgePieceRows() [][]impl.Piece {
	d := &drawn{state: 27}
	edges := piecesOfNumbers(edgePlaces())
	back := slices.Clone(edges)
	slices.Reverse(back)
	var mixed []impl.Piece
	for range 2 * len(edges) {
		mixed = append(mixed, edges[d.below(len(edges))])
	}
	rows := [][]impl.Piece{
		nil, {}, edges, back, mixed, pieceRow(0, 0, 0), pieceRow(3, 1, 4, 0, 7, 3), pieceRow(1, 2, 3, 1, 2, 3), pieceRow(1, 2, 3, 4, 5, 6, 1, 2, 3),
		pieceRow(5, 5, 3, 5, 5, 1, 5, 5, 2), pieceRow(5, 5, 1, 5, 5, 2, 5, 5, 3), pieceRow(5, 5, 3, 5, 5, 1, 5, 5, 3, 5, 5, 1), pieceRow(2, 1, 9, 1, 1, 9, 1, 2, 9, 2, 2, 9),
		pieceRow(-1, -2, -3, -3, -2, -1), pieceRow(0, 0, math.MinInt, 0, 0, math.MaxInt), pieceRow(math.MinInt, math.MaxInt, 0, math.MaxInt, math.MinInt, 0),
		slices.Repeat(pieceRow(7, 8, 9), 20),
	}
	for _, n := range []int{2, 3, 4, 5, 8, 13, 100, 1000} {
		rows = append(rows, drawnPieces(d, n, 2), drawnPieces(d, n, 4), drawnPieces(d, n, 1000))
	}
	return rows
}

func TestP13RowsOfPiecesAreTurned(t *testing.T) {
	for _, row := range edgePieceRows() {
		checkTurnedRow(t, row)
	}
	few := piecesOfNumbers([]int{0, 1})
	for _, indexes := range allRows(len(few), 4) {
		var row []impl.Piece
		for _, i := range indexes {
			row = append(row, few[i])
		}
		checkTurnedRow(t, row)
	}
}

func TestP13SomePiecesAreTurned(t *testing.T) {
	cases := []struct {
		list   []impl.Piece
		turned []impl.Piece
	}{
		{nil, nil}, {pieceRow(3, 1, 4), pieceRow(1, 3, 4)}, {pieceRow(0, 7, 3, 3, 1, 4), pieceRow(1, 3, 4, 7, 0, 3)},
		{pieceRow(0, 1, 2, 0, 1, 2), pieceRow(1, 0, 2)}, {pieceRow(0, 1, 9, 0, 1, 2, 0, 1, 9), pieceRow(1, 0, 2, 1, 0, 9)},
		{pieceRow(5, 2, 1, 4, 2, 1, 6, 1, 1, 4, 1, 8), pieceRow(1, 4, 8, 1, 6, 1, 2, 4, 1, 2, 5, 1)},
		{pieceRow(-1, math.MaxInt, 0, math.MinInt, math.MaxInt, -5, 3, -4, math.MinInt), pieceRow(-4, 3, math.MinInt, math.MaxInt, math.MinInt, -5, math.MaxInt, -1, 0)},
	}
	for _, c := range cases {
		if turned := impl.TurnedPieces(c.list); !slices.Equal(turned, c.turned) {
			t.Fatalf("%v: %v, not %v", c.list, turned, c.turned)
		}
	}
}

// The rows are so long here that they are turned in time only if not each pair of pieces is looked at.
func TestP13LongRowsOfPieces(t *testing.T) {
	d := &drawn{state: 28}
	checkTurnedRow(t, drawnPieces(d, 1<<17, 1<<30))
	checkTurnedRow(t, drawnPieces(d, 1<<17, 20))
}

// checkPieceOk looks also at all pieces with less bytes at the same places.
func checkPieceOk(t *testing.T, a string, b string, p impl.Piece) {
	t.Helper()
	ok := impl.PieceOk(a, b, p)
	if ok != isPieceByRules(a, b, p) {
		t.Fatalf("%q and %q, %v: %v", a, b, p, ok)
	}
	for long := p.Long; ok && long > 0; long-- {
		if !impl.PieceOk(a, b, impl.Piece{A: p.A, B: p.B, Long: long}) {
			t.Fatalf("%q and %q, %v: not so with %d bytes", a, b, p, long)
		}
	}
}

func TestP115PiecesAreThoseWithTheSameBytes(t *testing.T) {
	for _, pair := range shortPairs() {
		a, b := pair[0], pair[1]
		for i := -2; i <= len(a)+2; i++ {
			for j := -2; j <= len(b)+2; j++ {
				for long := -2; long <= min(len(a), len(b))+2; long++ {
					checkPieceOk(t, a, b, impl.Piece{A: i, B: j, Long: long})
				}
			}
		}
	}
}

func TestP115EachBeginningOfAPieceOfLongTexts(t *testing.T) {
	d := &drawn{state: 29}
	for _, pair := range longPairs() {
		a, b := pair[0], pair[1]
		for range 100 {
			i, j := d.below(len(a)+1), d.below(len(b)+1)
			long := inCommon(a, b, i, j)
			for _, n := range []int{-1, 0, 1, long - 1, long, long + 1, len(a) - i, len(b) - j, len(a) - i + 1, len(b) - j + 1} {
				checkPieceOk(t, a, b, impl.Piece{A: i, B: j, Long: n})
			}
		}
	}
}

func TestP115NoPiecesWithOtherNumbers(t *testing.T) {
	numbers := append(edgePlaces(), -2, 3, 4, math.MinInt+3, math.MaxInt-3, 1<<62-1)
	for _, pair := range [][2]string{{"", ""}, {"a", ""}, {"", "a"}, {"aaa", "aaa"}, {"aaa", "aa"}, {"\xff\xff\xff", "\xff\xff\xff\xff"}, {"abc", "bca"}} {
		for _, p := range piecesOfNumbers(numbers) {
			checkPieceOk(t, pair[0], pair[1], p)
		}
	}
}

func TestP115SomePieces(t *testing.T) {
	cases := []struct {
		a  string
		b  string
		p  impl.Piece
		ok bool
	}{
		{"the sea", "a sea, the", impl.Piece{A: 3, B: 1, Long: 4}, true}, {"the sea", "a sea, the", impl.Piece{A: 4, B: 2, Long: 2}, true},
		{"the sea", "a sea, the", impl.Piece{A: 3, B: 1, Long: 5}, false}, {"the sea", "a sea, the", impl.Piece{A: 0, B: 7, Long: 4}, false},
		{"the sea", "a sea, the", impl.Piece{A: 0, B: 7, Long: 3}, true}, {"the sea", "a sea, the", impl.Piece{A: 0, B: 0, Long: 1}, false},
		{"a", "a", impl.Piece{Long: 1}, true}, {"a", "a", impl.Piece{}, false}, {"", "", impl.Piece{}, false}, {"a", "a", impl.Piece{Long: 2}, false}, {"a", "a", impl.Piece{Long: -1}, false},
		{"ab", "ab", impl.Piece{A: 2, B: 2}, false}, {"ab", "ab", impl.Piece{A: 2, B: 2, Long: 1}, false}, {"ab", "ab", impl.Piece{A: 3, B: 3, Long: -1}, false},
		{"ab", "ab", impl.Piece{A: -1, B: 0, Long: 1}, false}, {"ab", "ab", impl.Piece{A: 0, B: -1, Long: 1}, false}, {"ab", "abab", impl.Piece{A: 0, B: 2, Long: 3}, false}, {"abab", "ab", impl.Piece{A: 2, B: 0, Long: 3}, false},
		{"\x80\xff", "\xff\x80", impl.Piece{A: 0, B: 1, Long: 1}, true}, {"\x80", "\x00", impl.Piece{Long: 1}, false}, {"aAa", "peq", impl.Piece{Long: 3}, false},
	}
	for _, c := range cases {
		if ok := impl.PieceOk(c.a, c.b, c.p); ok != c.ok {
			t.Fatalf("%q and %q, %v: %v", c.a, c.b, c.p, ok)
		}
	}
}

func checkNotGrown(t *testing.T, a string, b string, i int, j int) {
	t.Helper()
	if p, ok := impl.GrowPiece(a, b, i, j); p != (impl.Piece{}) || ok {
		t.Fatalf("%q and %q, %d and %d: %v, %v", a, b, i, j, p, ok)
	}
}

// checkGrow is for places of both texts.
func checkGrow(t *testing.T, a string, b string, i int, j int) {
	t.Helper()
	if a[i] != b[j] {
		checkNotGrown(t, a, b, i, j)
		return
	}
	p, ok := impl.GrowPiece(a, b, i, j)
	if !ok {
		t.Fatalf("%q and %q, %d and %d: %v, %v", a, b, i, j, p, ok)
	}
	checkCanNotGrow(t, a, b, p)
	if !impl.PieceOk(a, b, p) || !impl.PieceHas(p, i, j, 1) || !hasByRules(p, i, j, 1) {
		t.Fatalf("%q and %q, %d and %d: %v", a, b, i, j, p)
	}
}

// checkGrowsTheSame looks at all places of a piece, or at some if they are many.
func checkGrowsTheSame(t *testing.T, a string, b string, p impl.Piece) {
	t.Helper()
	places := []int{0, p.Long / 2, p.Long - 1}
	if p.Long < 20 {
		places = ascendingNumbers(p.Long)
	}
	for _, at := range places {
		if same, ok := impl.GrowPiece(a, b, p.A+at, p.B+at); same != p || !ok {
			t.Fatalf("%q and %q, %d and %d: %v, %v, not %v", a, b, p.A+at, p.B+at, same, ok, p)
		}
	}
}

func TestP116WhatIsGrownCanNotBeMadeLonger(t *testing.T) {
	for _, pair := range shortPairs() {
		a, b := pair[0], pair[1]
		for i := range len(a) {
			for j := range len(b) {
				checkGrow(t, a, b, i, j)
			}
		}
		for _, p := range piecesByShifts(a, b, 1) {
			checkGrowsTheSame(t, a, b, p)
		}
	}
}

func TestP116PiecesOfLongTextsAreGrown(t *testing.T) {
	d := &drawn{state: 30}
	for _, pair := range longPairs() {
		a, b := pair[0], pair[1]
		for range 200 * min(len(a), len(b), 1) {
			checkGrow(t, a, b, d.below(len(a)), d.below(len(b)))
		}
		list := piecesByShifts(a, b, 1)
		for i := 0; i < len(list); i += 1 + len(list)/500 {
			checkGrowsTheSame(t, a, b, list[i])
		}
	}
}

func TestP116NothingIsGrownAtOtherPlaces(t *testing.T) {
	for _, pair := range slices.Concat(shortPairs(), longPairs()) {
		a, b := pair[0], pair[1]
		others := []int{math.MinInt, math.MinInt + 1, -len(a) - 1, -2, -1, 0, 1, len(a) / 2, len(a) - 1, len(a), len(a) + 1, len(b) - 1, len(b), len(b) + 1, 1 << 40, math.MaxInt - 1, math.MaxInt}
		for _, i := range others {
			for _, j := range others {
				if i < 0 || i >= len(a) || j < 0 || j >= len(b) {
					checkNotGrown(t, a, b, i, j)
				}
			}
		}
	}
}

func TestP116SomePiecesAreGrown(t *testing.T) {
	cases := []struct {
		a  string
		b  string
		i  int
		j  int
		p  impl.Piece
		ok bool
	}{
		{"the sea", "a sea, the", 5, 3, impl.Piece{A: 3, B: 1, Long: 4}, true}, {"the sea", "a sea, the", 6, 4, impl.Piece{A: 3, B: 1, Long: 4}, true},
		{"the sea", "a sea, the", 0, 7, impl.Piece{A: 0, B: 7, Long: 3}, true}, {"the sea", "a sea, the", 2, 3, impl.Piece{A: 2, B: 3, Long: 1}, true},
		{"a", "a", 0, 0, impl.Piece{Long: 1}, true}, {"aaa", "aa", 1, 1, impl.Piece{Long: 2}, true}, {"aaa", "aa", 2, 0, impl.Piece{A: 2, Long: 1}, true}, {"aaa", "aa", 1, 0, impl.Piece{A: 1, Long: 2}, true},
		{"ab", "ab", 0, 0, impl.Piece{Long: 2}, true}, {"ab", "ab", 1, 1, impl.Piece{Long: 2}, true}, {"\xff\x80a", "b\xff\x80", 1, 2, impl.Piece{B: 1, Long: 2}, true},
		{"the sea", "a sea, the", 0, 0, impl.Piece{}, false}, {"a", "A", 0, 0, impl.Piece{}, false}, {"\x80", "\x00", 0, 0, impl.Piece{}, false},
		// Bytes are equal on both sides, but not here.
		{"abc", "aXc", 1, 1, impl.Piece{}, false},
		{"", "", 0, 0, impl.Piece{}, false}, {"a", "", 0, 0, impl.Piece{}, false}, {"", "a", 0, 0, impl.Piece{}, false}, {"a", "a", 1, 1, impl.Piece{}, false}, {"a", "a", -1, -1, impl.Piece{}, false},
	}
	for _, c := range cases {
		if p, ok := impl.GrowPiece(c.a, c.b, c.i, c.j); p != c.p || ok != c.ok {
			t.Fatalf("%q and %q, %d and %d: %v, %v, not %v, %v", c.a, c.b, c.i, c.j, p, ok, c.p, c.ok)
		}
	}
}

// checkHas looks also at parts of what a piece has: the first and the last byte, all but these, and halves.
func checkHas(t *testing.T, p impl.Piece, i int, j int, n int) {
	t.Helper()
	has := impl.PieceHas(p, i, j, n)
	if has != hasByRules(p, i, j, n) {
		t.Fatalf("%v, %d and %d, %d: %v", p, i, j, n, has)
	}
	if !has {
		return
	}
	for _, part := range [][2]int{{0, 1}, {n - 1, 1}, {1, n - 1}, {0, n - 1}, {1, n - 2}, {n / 2, n - n/2}, {0, n / 2}} {
		behind, long := part[0], part[1]
		// A place may not be more than the largest int, though a piece may end behind it.
		if long < 1 || behind > math.MaxInt-max(i, j) {
			continue
		}
		if !impl.PieceHas(p, i+behind, j+behind, long) {
			t.Fatalf("%v has %d bytes at %d and %d, but not %d of them behind %d", p, n, i, j, long, behind)
		}
	}
}

func TestP117APartOfWhatAPieceHasIsInIt(t *testing.T) {
	for _, p := range piecesOfNumbers([]int{-1, 0, 1, 2, 3}) {
		for i := -2; i <= 7; i++ {
			for j := -2; j <= 7; j++ {
				for n := -2; n <= 5; n++ {
					checkHas(t, p, i, j, n)
				}
			}
		}
	}
}

func TestP117EachPartOfLongPieces(t *testing.T) {
	for _, p := range pieceRow(0, 0, 40, 7, 30, 40, 1<<40, 5, 40, math.MaxInt-50, 3, 40) {
		for from := range p.Long {
			for n := 1; n <= p.Long+2; n++ {
				if has := impl.PieceHas(p, p.A+from, p.B+from, n); has != (from+n <= p.Long) {
					t.Fatalf("%v, %d bytes behind %d: %v", p, n, from, has)
				}
				if impl.PieceHas(p, p.A+from+1, p.B+from, n) || impl.PieceHas(p, p.A+from, p.B+from+1, n) {
					t.Fatalf("%v, %d bytes behind %d, but not at one place in both", p, n, from)
				}
			}
		}
	}
}

func TestP117LargestAndSmallestNumbers(t *testing.T) {
	numbers := edgePlaces()
	for _, p := range piecesOfNumbers(numbers) {
		for _, q := range piecesOfNumbers(numbers) {
			checkHas(t, p, q.A, q.B, q.Long)
		}
	}
}

func TestP117WhatSomePiecesHave(t *testing.T) {
	cases := []struct {
		p   impl.Piece
		i   int
		j   int
		n   int
		has bool
	}{
		{impl.Piece{A: 3, B: 1, Long: 4}, 3, 1, 4, true}, {impl.Piece{A: 3, B: 1, Long: 4}, 4, 2, 2, true}, {impl.Piece{A: 3, B: 1, Long: 4}, 6, 4, 1, true},
		{impl.Piece{A: 3, B: 1, Long: 4}, 6, 4, 2, false}, {impl.Piece{A: 3, B: 1, Long: 4}, 7, 5, 1, false}, {impl.Piece{A: 3, B: 1, Long: 4}, 2, 0, 1, false}, {impl.Piece{A: 3, B: 1, Long: 4}, 3, 1, 5, false},
		{impl.Piece{A: 3, B: 1, Long: 4}, 4, 1, 1, false}, {impl.Piece{A: 3, B: 1, Long: 4}, 3, 2, 1, false}, {impl.Piece{A: 3, B: 1, Long: 4}, 3, 1, 0, false}, {impl.Piece{A: 3, B: 1, Long: 4}, 3, 1, -1, false},
		{impl.Piece{}, 0, 0, 0, false}, {impl.Piece{}, 0, 0, 1, false}, {impl.Piece{Long: 1}, 0, 0, 1, true}, {impl.Piece{Long: 1}, 0, 0, 0, false}, {impl.Piece{Long: -1}, 0, 0, 1, false},
		// One of the numbers is below 0.
		{impl.Piece{A: -1, B: -1, Long: 5}, 0, 0, 1, false}, {impl.Piece{A: -1, B: 0, Long: 5}, 0, 1, 1, false}, {impl.Piece{A: 0, B: -1, Long: 5}, 1, 0, 1, false}, {impl.Piece{A: -1, B: -1, Long: 5}, -1, -1, 1, false},
		{impl.Piece{Long: math.MinInt}, 0, 0, 1, false}, {impl.Piece{Long: math.MinInt}, 1, 1, 1, false}, {impl.Piece{Long: math.MinInt}, math.MaxInt, math.MaxInt, 1, false},
		// The end is behind the largest int.
		{impl.Piece{A: math.MaxInt, B: 0, Long: 5}, math.MaxInt, 0, 5, true}, {impl.Piece{A: math.MaxInt, B: 0, Long: 5}, math.MaxInt, 0, 6, false}, {impl.Piece{A: 1, B: 1, Long: math.MaxInt}, 1, 1, math.MaxInt, true},
		{impl.Piece{A: 1, B: 1, Long: math.MaxInt}, math.MaxInt, math.MaxInt, 1, true}, {impl.Piece{A: 1, B: 1, Long: math.MaxInt}, math.MaxInt, math.MaxInt, 2, false}, {impl.Piece{Long: math.MaxInt}, 1, 1, math.MaxInt, false},
		{impl.Piece{Long: 9}, math.MaxInt, math.MaxInt, math.MaxInt, false}, {impl.Piece{Long: 9}, 5, 5, math.MaxInt, false}, {impl.Piece{Long: 9}, 1, 1, math.MinInt, false},
	}
	for _, c := range cases {
		if has := impl.PieceHas(c.p, c.i, c.j, c.n); has != c.has {
			t.Fatalf("%v, %d and %d, %d: %v", c.p, c.i, c.j, c.n, has)
		}
	}
}

func checkLongest(t *testing.T, a string, b string) {
	t.Helper()
	list := piecesByShifts(a, b, 1)
	var want impl.Piece
	for _, p := range list {
		if p.Long > want.Long {
			want = p
		}
	}
	longest, other := impl.LongestPiece(a, b), impl.LongestPiece(b, a)
	if longest != want {
		t.Fatalf("%q and %q: %v, not %v", a, b, longest, want)
	}
	if other.Long != longest.Long {
		t.Fatalf("%q and %q: %v, and the other way round %v", a, b, longest, other)
	}
	if ok := impl.PieceOk(a, b, longest); ok != (len(list) > 0) {
		t.Fatalf("%q and %q: %v, %v", a, b, longest, ok)
	}
}

func TestP118NoPieceIsLongerThanTheLongestOne(t *testing.T) {
	for _, pair := range slices.Concat(shortPairs(), textPairs(fewTexts()), longPairs()) {
		checkLongest(t, pair[0], pair[1])
	}
	for _, s := range longTexts() {
		checkLongest(t, s, s[len(s)/3:]+s[:len(s)/3])
	}
}

func TestP118LongestPiecesOfSomeTexts(t *testing.T) {
	cases := []struct {
		a string
		b string
		p impl.Piece
	}{
		{"", "", impl.Piece{}}, {"a", "", impl.Piece{}}, {"", "a", impl.Piece{}}, {"abc", "xyz", impl.Piece{}}, {"\x80", "\x00", impl.Piece{}},
		{"a", "a", impl.Piece{Long: 1}}, {"abc", "abc", impl.Piece{Long: 3}}, {"aaa", "aa", impl.Piece{Long: 2}}, {"abcab", "cabx", impl.Piece{A: 2, Long: 3}},
		{"Xab", "Yab", impl.Piece{A: 1, B: 1, Long: 2}}, {"\x80\xff\x80", "\xff\x80\xff\x80", impl.Piece{B: 1, Long: 3}},
		// Several ones are the longest.
		{"abXcd", "cdYab", impl.Piece{A: 0, B: 3, Long: 2}}, {"cdYab", "abXcd", impl.Piece{A: 0, B: 3, Long: 2}}, {"Xab", "abab", impl.Piece{A: 1, Long: 2}}, {"abab", "Xab", impl.Piece{B: 1, Long: 2}},
		{"cXabYab", "abZabZc", impl.Piece{A: 2, Long: 2}},
	}
	for _, c := range cases {
		if p := impl.LongestPiece(c.a, c.b); p != c.p {
			t.Fatalf("%q and %q: %v, not %v", c.a, c.b, p, c.p)
		}
	}
}

// checkFewer looks whether of pieces those stay that have enough bytes, as they are.
func checkFewer(t *testing.T, a string, b string, n int, more int) {
	t.Helper()
	list, fewer := impl.PiecesOf(a, b, n), impl.PiecesOf(a, b, more)
	want := slices.DeleteFunc(slices.Clone(list), func(p impl.Piece) bool { return p.Long < more })
	if len(fewer) > len(list) {
		t.Fatalf("%q and %q: %d pieces with %d bytes, %d with %d", a, b, len(list), n, len(fewer), more)
	}
	checkSamePieces(t, a, b, more, fewer, want)
}

func TestP119TheMoreBytesTheFewerPieces(t *testing.T) {
	for _, pair := range shortPairs() {
		for n := 1; n <= len(pair[0])+2; n++ {
			for more := n; more <= len(pair[0])+2; more++ {
				checkFewer(t, pair[0], pair[1], n, more)
			}
			checkFewer(t, pair[0], pair[1], n, math.MaxInt)
		}
	}
	for _, pair := range slices.Concat(textPairs(fewTexts()), longPairs()) {
		for _, n := range [][2]int{{1, 2}, {2, 3}, {3, 30}, {30, 999}, {999, 1000}, {1000, 1001}, {1, math.MaxInt}} {
			checkFewer(t, pair[0], pair[1], n[0], n[1])
		}
	}
}

func TestP119ManyPiecesBecomeNone(t *testing.T) {
	a, b := strings.Repeat("ab", 20), strings.Repeat("ba", 20)
	for n := 1; n <= 40; n++ {
		// There are shifts by 1, 3, 5 up to 39 bytes in both directions, with as many bytes less.
		want := 2 * ((41 - n) / 2)
		if list := impl.PiecesOf(a, b, n); len(list) != want {
			t.Fatal(n, len(list), want)
		}
	}
}

func TestPieceListsOwnTheirMemory(t *testing.T) {
	other := impl.Piece{A: -7, B: -7, Long: -7}
	for _, pair := range slices.Concat(shortPairs(), longPairs()[:2]) {
		for _, n := range []int{0, 1, 2, 4} {
			checkListIsOwn(t, func() []impl.Piece { return impl.PiecesOf(pair[0], pair[1], n) }, other)
		}
	}
	for _, row := range edgePieceRows() {
		checkListIsOwn(t, func() []impl.Piece { return impl.TurnedPieces(row) }, other)
	}
}

func TestTurningPiecesWritesToNoArgument(t *testing.T) {
	behind, other := impl.Piece{A: 3, B: 1, Long: 4}, impl.Piece{A: -7, B: -7, Long: -7}
	for _, row := range edgePieceRows() {
		checkListIsKept(t, row, behind, impl.TurnedPieces, other)
	}
}

func TestPiecesWriteToNoArgument(t *testing.T) {
	for _, pair := range slices.Concat(shortPairs(), longPairs()[:8]) {
		// The arguments are parts of a longer text, so that writing beside them is seen too.
		all := strings.Clone("ahead" + pair[0] + "between" + pair[1] + "behind")
		kept := strings.Clone(all)
		from := 5 + len(pair[0]) + 7
		a, b := all[5:5+len(pair[0])], all[from:from+len(pair[1])]
		scribbled(impl.PiecesOf(a, b, 1), impl.Piece{A: -7, B: -7, Long: -7})
		impl.PiecesOf(a, b, -1)
		impl.LongestPiece(a, b)
		for _, at := range []int{-1, 0, len(a) / 2, len(b), math.MaxInt} {
			impl.GrowPiece(a, b, at, at)
			impl.PieceOk(a, b, impl.Piece{A: at, B: at, Long: 1})
		}
		if all != kept {
			t.Fatalf("%q became %q", kept, all)
		}
	}
}
