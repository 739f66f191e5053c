package tests

import (
	"cmp"
	"math"
	"slices"
	"strings"
	"testing"

	"loop.example/copiedtexts/impl"
)

var (
	_ func([]int, int) []int                     = impl.ChosenOf
	_ func(string, int, int) []impl.Mark         = impl.MarksOf
	_ func(int, int) int                         = impl.SureLength
	_ func([]impl.Mark, []impl.Mark) []impl.Twin = impl.TwinsOf
	_ func(string, string, int, int) []impl.Mark = impl.MarksAfter
	_ struct{ Print, At int }                    = impl.Mark{}
	_ struct{ A, B int }                         = impl.Twin{}
)

// The document's number is written again here, so that a test fails if that of the program is another one.
const sizeMost = 1000000

func TestConstantOfSizes(t *testing.T) {
	if impl.SizeMost != sizeMost {
		t.Fatal(impl.SizeMost)
	}
}

// allRows returns all rows of at most most numbers from 0 to less than numbers.
func allRows(numbers int, most int) [][]int {
	rows := [][]int{nil}
	for begin := 0; len(rows[len(rows)-1]) < most; {
		end := len(rows)
		for _, row := range rows[begin:end] {
			for n := range numbers {
				rows = append(rows, append(slices.Clone(row), n))
			}
		}
		begin = end
	}
	return rows
}

func drawnNumbers(d *drawn, n int, below int) []int {
	list := make([]int, n)
	for i := range list {
		list[i] = d.below(below)
	}
	return list
}

func ascendingNumbers(n int) []int {
	list := make([]int, n)
	for i := range list {
		list[i] = i
	}
	return list
}

func descendingNumbers(n int) []int {
	list := ascendingNumbers(n)
	slices.Reverse(list)
	return list
}

// edgeRows returns rows with the largest and the smallest int, and with numbers below 0.
func edgeRows() [][]int {
	return [][]int{
		{math.MinInt}, {math.MaxInt}, {math.MaxInt, math.MinInt}, {math.MinInt, math.MaxInt},
		{math.MinInt, math.MinInt, math.MinInt}, {math.MaxInt, math.MaxInt, math.MaxInt, math.MaxInt},
		{math.MaxInt, math.MaxInt - 1, math.MinInt + 1, math.MinInt, math.MinInt + 1, math.MaxInt},
		{0, -1, 0, 1, math.MinInt, -1, math.MaxInt, 1, 0, -1, -1, -2}, {-1, -1, 0, 0, 1, 1, -1},
		{math.MinInt, 0, math.MaxInt, 0, math.MinInt, 0, math.MaxInt, 0, math.MinInt},
	}
}

// longRows returns rows of up to 1000 numbers: drawn ones with few and with many different numbers, and such that are equal, go up, or go down.
func longRows() [][]int {
	d := &drawn{state: 6}
	rows := [][]int{make([]int, 1000), ascendingNumbers(1000), descendingNumbers(1000)}
	rows = append(rows, slices.Repeat([]int{2, 1, 1, 3}, 250), slices.Concat(descendingNumbers(500), ascendingNumbers(500)))
	for _, n := range []int{20, 256, 999, 1000} {
		for _, below := range []int{2, 5, 100, prime} {
			rows = append(rows, drawnNumbers(d, n, below))
		}
	}
	return rows
}

// chosenOneByOne looks at each window by itself.
func chosenOneByOne(list []int, w int) []int {
	seen := map[int]bool{}
	for from := 0; from+w <= len(list); from++ {
		window := list[from : from+w]
		least := slices.Min(window)
		last := w - 1
		for window[last] != least {
			last--
		}
		seen[from+last] = true
	}
	var chosen []int
	for at := range list {
		if seen[at] {
			chosen = append(chosen, at)
		}
	}
	return chosen
}

func hasPlace(places []int, at int) bool {
	_, ok := slices.BinarySearch(places, at)
	return ok
}

func ascends(places []int) bool {
	for i := 1; i < len(places); i++ {
		if places[i-1] >= places[i] {
			return false
		}
	}
	return true
}

// checkEachWindow looks whether each window has a place that is chosen, at which the number is its least.
func checkEachWindow(t *testing.T, list []int, chosen []int, w int) {
	t.Helper()
	for from := 0; from+w <= len(list); from++ {
		least := slices.Min(list[from : from+w])
		found := false
		for at := from; at < from+w; at++ {
			found = found || list[at] == least && hasPlace(chosen, at)
		}
		if !found {
			t.Fatalf("%v, %d: none of the least of the window at %d in %v", list, w, from, chosen)
		}
	}
}

func checkChosen(t *testing.T, list []int, w int) {
	t.Helper()
	chosen := impl.ChosenOf(list, w)
	if want := chosenOneByOne(list, w); !slices.Equal(chosen, want) {
		t.Fatalf("%v, %d: %v, not %v", list, w, chosen, want)
	}
	if !ascends(chosen) {
		t.Fatalf("%v, %d: %v", list, w, chosen)
	}
	checkEachWindow(t, list, chosen, w)
	for i := 1; i < len(chosen); i++ {
		if between := chosen[i] - chosen[i-1] - 1; between >= w {
			t.Fatalf("%v, %d: %d numbers between two of %v", list, w, between, chosen)
		}
	}
}

func checkNoneChosen(t *testing.T, list []int) {
	t.Helper()
	n := len(list)
	for _, w := range []int{0, -1, -2, -n, -n - 1, math.MinInt, math.MinInt + 1, n + 1, n + 2, 2*n + 1, 1 << 40, math.MaxInt - 1, math.MaxInt} {
		if chosen := impl.ChosenOf(list, w); len(chosen) != 0 {
			t.Fatalf("%v, %d: %v", list, w, chosen)
		}
	}
}

func TestP5OneOfEachWindowIsChosen(t *testing.T) {
	rows := append(allRows(3, 7), edgeRows()...)
	for _, list := range append(rows, allRows(6, 4)...) {
		for w := 1; w <= len(list); w++ {
			checkChosen(t, list, w)
		}
	}
}

func TestP227OneOfEachWindowIsChosenUpTo1000(t *testing.T) {
	for _, list := range longRows() {
		for _, w := range []int{1, 2, 3, 4, 5, 8, 19, 20, len(list) / 2, len(list) - 1, len(list)} {
			checkChosen(t, list, w)
		}
	}
}

func TestP5NoneIsChosenWithOtherWindows(t *testing.T) {
	for _, list := range slices.Concat(allRows(2, 5), edgeRows(), longRows()) {
		checkNoneChosen(t, list)
	}
}

func TestP5ChosenOfSomeNumbers(t *testing.T) {
	cases := []struct {
		list   []int
		w      int
		chosen []int
	}{
		{nil, 1, nil}, {nil, 0, nil}, {[]int{}, 1, nil}, {nil, -1, nil}, {nil, math.MaxInt, nil}, {nil, math.MinInt, nil},
		{[]int{5}, 1, []int{0}}, {[]int{5}, 2, nil}, {[]int{5}, 0, nil}, {[]int{5}, -1, nil},
		{[]int{3, 1, 1, 5, 4, 2}, 3, []int{2, 5}},
		{[]int{3, 1, 1, 5, 4, 2}, 1, []int{0, 1, 2, 3, 4, 5}},
		{[]int{3, 1, 1, 5, 4, 2}, 6, []int{2}},
		{[]int{3, 1, 1, 5, 4, 2}, 7, nil},
		{[]int{1, 2, 3, 4, 5}, 3, []int{0, 1, 2}},
		{[]int{5, 4, 3, 2, 1}, 3, []int{2, 3, 4}},
		{[]int{1, 9, 9, 9, 1}, 4, []int{0, 4}},
		{[]int{1, 9, 9, 9, 1}, 5, []int{4}},
		{[]int{math.MaxInt, math.MinInt, math.MaxInt}, 2, []int{1}},
	}
	for _, c := range cases {
		if chosen := impl.ChosenOf(c.list, c.w); !slices.Equal(chosen, c.chosen) {
			t.Fatalf("%v, %d: %v, not %v", c.list, c.w, chosen, c.chosen)
		}
	}
}

func TestP5OfEqualNumbersSideBySideTheLastOneIsChosen(t *testing.T) {
	cases := []struct {
		list   []int
		w      int
		chosen []int
	}{
		{[]int{7, 7}, 2, []int{1}},
		{[]int{7, 7, 7, 7}, 1, []int{0, 1, 2, 3}},
		{[]int{7, 7, 7, 7}, 2, []int{1, 2, 3}},
		{[]int{7, 7, 7, 7}, 3, []int{2, 3}},
		{[]int{7, 7, 7, 7}, 4, []int{3}},
		{[]int{1, 1, 2, 2}, 3, []int{1}},
		{[]int{2, 1, 1, 2}, 2, []int{1, 2}},
		{[]int{2, 2, 1, 1}, 2, []int{1, 2, 3}},
		{[]int{1, 1, 2, 2, 2, 1, 1}, 3, []int{1, 4, 5, 6}},
	}
	for _, c := range cases {
		if chosen := impl.ChosenOf(c.list, c.w); !slices.Equal(chosen, c.chosen) {
			t.Fatalf("%v, %d: %v, not %v", c.list, c.w, chosen, c.chosen)
		}
		checkChosen(t, c.list, c.w)
	}
}

// Windows are so long here that the least of each is told in time only if it is told by the one ahead.
func TestP5ChosenWithLongWindows(t *testing.T) {
	n, w := 1<<20, 1<<19
	if chosen := impl.ChosenOf(ascendingNumbers(n), w); !slices.Equal(chosen, ascendingNumbers(n-w+1)) {
		t.Fatal(len(chosen))
	}
	if chosen := impl.ChosenOf(descendingNumbers(n), w); !slices.Equal(chosen, ascendingNumbers(n)[w-1:]) {
		t.Fatal(len(chosen))
	}
	if chosen := impl.ChosenOf(make([]int, n), w); !slices.Equal(chosen, ascendingNumbers(n)[w-1:]) {
		t.Fatal(len(chosen))
	}
}

// markTexts returns short texts of all kinds: with equal pieces side by side, and with pieces whose fingerprints meet.
func markTexts() []string {
	return append(fewTexts(), allTexts("ab\xff", 5)...)
}

func checkMarks(t *testing.T, s string, k int, w int) {
	t.Helper()
	marks := impl.MarksOf(s, k, w)
	var places, prints []int
	for _, mark := range marks {
		if mark.At < 0 || mark.At+k > len(s) || mark.Print != impl.PrintOf(s[mark.At:mark.At+k]) {
			t.Fatalf("%q, %d, %d: %v", s, k, w, mark)
		}
		places = append(places, mark.At)
	}
	for at := 0; at+k <= len(s); at++ {
		prints = append(prints, impl.PrintOf(s[at:at+k]))
	}
	if want := chosenOneByOne(prints, w); !slices.Equal(places, want) {
		t.Fatalf("%q, %d, %d: %v, not %v", s, k, w, places, want)
	}
}

func checkNoMarks(t *testing.T, s string, k int, w int) {
	t.Helper()
	if marks := impl.MarksOf(s, k, w); len(marks) != 0 {
		t.Fatalf("%q, %d, %d: %v", s, k, w, marks)
	}
}

func TestP101MarksArePrintsAtTheirPlaces(t *testing.T) {
	for _, s := range markTexts() {
		for k := 1; k <= len(s) && k <= 5; k++ {
			for w := 1; k+w-1 <= len(s) && w <= 5; w++ {
				checkMarks(t, s, k, w)
			}
			checkMarks(t, s, k, len(s)-k+1)
		}
	}
	for _, s := range longTexts() {
		for _, size := range [][2]int{{1, 1}, {1, 7}, {7, 1}, {3, 4}, {6, 10}, {16, 1}, {1, len(s)}, {len(s), 1}, {9, len(s) - 8}} {
			checkMarks(t, s, size[0], size[1])
		}
	}
}

func TestP101NoMarks(t *testing.T) {
	texts := append(markTexts(), strings.Repeat("the sea ", 125))
	for _, s := range texts {
		n := len(s)
		for _, k := range []int{0, -1, -n, math.MinInt, math.MinInt + 1, n + 1, n + 2, sizeMost + n, math.MaxInt - 1, math.MaxInt} {
			for _, w := range []int{math.MinInt, -1, 0, 1, 2, n, math.MaxInt} {
				checkNoMarks(t, s, k, w)
			}
		}
		for k := 1; k <= min(n, 6); k++ {
			for _, w := range []int{0, -1, -n, math.MinInt, math.MinInt + 1, n - k + 2, n - k + 3, n + 1, sizeMost + n, math.MaxInt - 1, math.MaxInt} {
				checkNoMarks(t, s, k, w)
			}
		}
	}
}

func markRow(numbers ...int) []impl.Mark {
	var marks []impl.Mark
	for i := 0; i < len(numbers); i += 2 {
		marks = append(marks, impl.Mark{Print: numbers[i], At: numbers[i+1]})
	}
	return marks
}

func TestP101MarksOfSomeTexts(t *testing.T) {
	cases := []struct {
		s     string
		k     int
		w     int
		marks []impl.Mark
	}{
		{"", 1, 1, nil}, {"", 0, 0, nil}, {"a", 1, 2, nil}, {"a", 2, 1, nil}, {"a", 0, 1, nil}, {"a", 1, 0, nil},
		{"a", 1, 1, markRow(98, 0)},
		{"abab", 1, 2, markRow(98, 0, 98, 2)},
		{"abab", 2, 2, markRow(25285, 0, 25285, 2)},
		{"abab", 2, 1, markRow(25285, 0, 25541, 1, 25285, 2)},
		{"abab", 2, 3, markRow(25285, 2)},
		{"abab", 2, 4, nil},
		{"aaaa", 1, 2, markRow(98, 1, 98, 2, 98, 3)},
		{"aaaa", 2, 3, markRow(25284, 2)},
		{"\xff\x80\xff", 1, 2, markRow(129, 1)},
		{"\xff\xff\xff", 1, 3, markRow(256, 2)},
		{"b" + nullText + "b", 3, 3, markRow(0, 1)},
	}
	for _, c := range cases {
		if marks := impl.MarksOf(c.s, c.k, c.w); !slices.Equal(marks, c.marks) {
			t.Fatalf("%q, %d, %d: %v, not %v", c.s, c.k, c.w, marks, c.marks)
		}
	}
}

// Sizes above SizeMost have no sure length, but texts that are long enough have marks with them.
func TestP101MarksWithSizesForWhichNothingIsSure(t *testing.T) {
	s := strings.Repeat("ab", sizeMost/2+1)
	for _, size := range [][2]int{{sizeMost + 1, 2}, {2, sizeMost + 1}, {sizeMost + 2, 1}, {1, sizeMost + 2}} {
		if marks := impl.MarksOf(s, size[0], size[1]); len(marks) != 1 || marks[0].Print != impl.PrintOf(s[marks[0].At:marks[0].At+size[0]]) {
			t.Fatal(size, marks)
		}
	}
}

// marksByPlace returns the fingerprints of marks by their places.
func marksByPlace(marks []impl.Mark) map[int]int {
	prints := map[int]int{}
	for _, mark := range marks {
		prints[mark.At] = mark.Print
	}
	return prints
}

// takesMarkAlong reports whether both texts keep a mark of the same place in a piece of n bytes at two places.
func takesMarkAlong(marksA map[int]int, marksB map[int]int, atA int, atB int, n int, k int) bool {
	for at := 0; at+k <= n; at++ {
		printA, okA := marksA[atA+at]
		printB, okB := marksB[atB+at]
		if okA && okB && printA == printB {
			return true
		}
	}
	return false
}

// inCommon returns how many bytes two texts have in common from two places on.
func inCommon(a string, b string, atA int, atB int) int {
	n := 0
	for atA+n < len(a) && atB+n < len(b) && a[atA+n] == b[atB+n] {
		n++
	}
	return n
}

// checkTakenAlong looks at all pieces in common that begin at every step-th place of the first text.
func checkTakenAlong(t *testing.T, a string, b string, k int, w int, step int) int {
	t.Helper()
	sure := impl.SureLength(k, w)
	marksA, marksB := marksByPlace(impl.MarksOf(a, k, w)), marksByPlace(impl.MarksOf(b, k, w))
	pieces := 0
	for atA := 0; atA < len(a); atA += step {
		for atB := range len(b) {
			long := inCommon(a, b, atA, atB)
			// A mark of the shortest one is a mark of all longer ones from the same place on.
			if long < sure {
				continue
			}
			pieces++
			if !takesMarkAlong(marksA, marksB, atA, atB, sure, k) {
				t.Fatalf("%q and %q, %d, %d: no mark of the pieces at %d and %d", a, b, k, w, atA, atB)
			}
		}
	}
	return pieces
}

func TestP6WhoCopiesEnoughTakesAMarkAlong(t *testing.T) {
	for _, texts := range [][]string{allTexts("ab", 6), allTexts("\x80\xff\x00", 3), fewTexts()} {
		for _, size := range [][2]int{{1, 1}, {1, 2}, {2, 1}, {2, 2}, {1, 3}, {3, 1}, {2, 3}, {3, 2}} {
			pieces := 0
			for _, a := range texts {
				for _, b := range texts {
					if len(a) <= 100 && len(b) <= 100 {
						pieces += checkTakenAlong(t, a, b, size[0], size[1], 1)
					}
				}
			}
			if pieces == 0 && size[0]+size[1]-1 <= 3 {
				t.Fatal(size)
			}
		}
	}
}

// copyingTexts returns two texts that have pieces of a third one in common, with other bytes between.
func copyingTexts(d *drawn, gaps int) (string, string) {
	all := drawnText(d, 300, gaps)
	a, b := "", ""
	for len(a) < 900 {
		from := d.below(250)
		piece := all[from : from+5+d.below(40)]
		a += piece + drawnText(d, d.below(20), gaps)
		b = drawnText(d, d.below(20), gaps) + piece + b
	}
	return a[:min(len(a), 1000)], b[:min(len(b), 1000)]
}

func TestP228WhoCopiesEnoughTakesAMarkAlongUpTo1000(t *testing.T) {
	d := &drawn{state: 7}
	for _, gaps := range []int{0, 2, 9} {
		a, b := copyingTexts(d, gaps)
		for _, size := range [][2]int{{1, 6}, {3, 4}, {5, 4}, {6, 1}, {4, 10}, {20, 5}, {12, 12}} {
			if checkTakenAlong(t, a, b, size[0], size[1], 1) == 0 {
				t.Fatal("no pieces in common", gaps, size)
			}
			checkTakenAlong(t, a, a, size[0], size[1], 1)
		}
	}
	for _, s := range longTexts() {
		for _, size := range [][2]int{{3, 4}, {40, 8}, {1, 300}, {len(s), 1}, {1, len(s)}, {len(s) / 2, len(s)/2 + 1}} {
			checkTakenAlong(t, s, s[len(s)/3:]+s, size[0], size[1], 1+len(s)/9)
		}
	}
}

// With a byte less than is sure no mark may be taken along, with just as many one is.
func TestP6PiecesOneByteShorterThanIsSure(t *testing.T) {
	cases := []struct {
		a    string
		b    string
		k    int
		w    int
		long int
	}{
		{"ab", "bc", 1, 2, 0}, {"abd", "bdc", 1, 2, 1},
		{"xyab", "abcd", 3, 1, 0}, {"xyabc", "abcde", 3, 1, 1},
		{"azz", "zzb", 1, 3, 0}, {"azzz", "zzzb", 1, 3, 1},
		{"AAbcd", "bcdef", 2, 3, 0}, {"AAbcde", "bcdeff", 2, 3, 1},
	}
	for _, c := range cases {
		twins := impl.TwinsOf(impl.MarksOf(c.a, c.k, c.w), impl.MarksOf(c.b, c.k, c.w))
		if min(len(twins), 1) != c.long {
			t.Fatalf("%q and %q, %d, %d: %v", c.a, c.b, c.k, c.w, twins)
		}
	}
}

func TestP6MarksBeginWithTheSureLength(t *testing.T) {
	for _, s := range append(longTexts(), allTexts("ab", 6)...) {
		for _, size := range [][2]int{{1, 1}, {1, 4}, {4, 1}, {2, 2}, {3, 4}, {8, 9}} {
			sure := impl.SureLength(size[0], size[1])
			if len(s) < sure {
				checkNoMarks(t, s, size[0], size[1])
				continue
			}
			checkNoMarks(t, s[:sure-1], size[0], size[1])
			if marks := impl.MarksOf(s[:sure], size[0], size[1]); len(marks) != 1 {
				t.Fatalf("%q, %v: %v", s[:sure], size, marks)
			}
		}
	}
}

// checkPieceMarks looks at the piece of a text from a place up to another one.
func checkPieceMarks(t *testing.T, s string, from int, to int, k int, w int) {
	t.Helper()
	ofPiece := marksByPlace(impl.MarksOf(s[from:to], k, w))
	ofText := marksByPlace(impl.MarksOf(s, k, w))
	for at, n := range ofPiece {
		if all, ok := ofText[from+at]; !ok || all != n {
			t.Fatalf("%q, %d, %d: the mark at %d of the piece from %d to %d is none of the text", s, k, w, at, from, to)
		}
	}
	for at, n := range ofText {
		// Of such a place no window reaches beyond the piece.
		inside := at-(w-1) >= from && at+(w-1)+k <= to
		if of, ok := ofPiece[at-from]; inside && (!ok || of != n) {
			t.Fatalf("%q, %d, %d: the mark at %d is none of the piece from %d to %d", s, k, w, at, from, to)
		}
	}
}

func TestP102MarksOfAPieceAreMarksOfTheText(t *testing.T) {
	for _, s := range append(allTexts("ab", 8), allTexts("a\x80\xff", 5)...) {
		for _, size := range [][2]int{{1, 1}, {1, 2}, {2, 2}, {1, 3}, {3, 2}} {
			for from := range len(s) {
				for to := from; to <= len(s); to++ {
					checkPieceMarks(t, s, from, to, size[0], size[1])
				}
			}
		}
	}
	for _, s := range longTexts() {
		for _, size := range [][2]int{{1, 6}, {3, 4}, {5, 1}, {20, 30}, {1, len(s) / 2}} {
			for from := 0; from < len(s); from += 1 + len(s)/7 {
				for _, to := range []int{from + 1, from + (len(s)-from)/2, len(s) - 1, len(s)} {
					checkPieceMarks(t, s, min(from, to), to, size[0], size[1])
				}
			}
		}
	}
}

func TestP103SureLengthGrowsByOneWithEach(t *testing.T) {
	sizes := []int{1, 2, 3, 4, 10, 999, sizeMost / 2, sizeMost - 2, sizeMost - 1, sizeMost}
	for _, k := range sizes {
		for _, w := range sizes {
			sure := impl.SureLength(k, w)
			if sure != k+w-1 {
				t.Fatal(k, w, sure)
			}
			if k < sizeMost && impl.SureLength(k+1, w) != sure+1 {
				t.Fatal(k, w)
			}
			if w < sizeMost && impl.SureLength(k, w+1) != sure+1 {
				t.Fatal(k, w)
			}
		}
	}
}

// noSizes are numbers for which nothing is sure.
func noSizes() []int {
	return []int{0, -1, -2, -sizeMost, sizeMost + 1, sizeMost + 2, 1 << 40, math.MinInt, math.MinInt + 1, math.MaxInt - 1, math.MaxInt}
}

func TestP103NothingIsSureForOtherNumbers(t *testing.T) {
	for _, n := range noSizes() {
		for _, other := range append(noSizes(), 1, 2, 1000, sizeMost-1, sizeMost) {
			if impl.SureLength(n, other) != 0 || impl.SureLength(other, n) != 0 {
				t.Fatal(n, other)
			}
		}
	}
}

// numbered returns marks with the indexes as their places, so that twins tell which marks they are of.
func numbered(marks []impl.Mark) []impl.Mark {
	list := slices.Clone(marks)
	for i := range list {
		list[i].At = i
	}
	return list
}

func countTwins(a []impl.Mark, b []impl.Mark) int {
	counts := map[int]int{}
	for _, mark := range a {
		counts[mark.Print]++
	}
	n := 0
	for _, mark := range b {
		n += counts[mark.Print]
	}
	return n
}

func compareTwins(x impl.Twin, y impl.Twin) int {
	return cmp.Or(cmp.Compare(x.A, y.A), cmp.Compare(x.B, y.B))
}

func turnedTwins(twins []impl.Twin) []impl.Twin {
	var turned []impl.Twin
	for _, twin := range twins {
		turned = append(turned, impl.Twin{A: twin.B, B: twin.A})
	}
	return turned
}

// checkTwins looks whether twins are pairs with one fingerprint, in order, and as many as there are such pairs.
func checkTwins(t *testing.T, a []impl.Mark, b []impl.Mark) {
	t.Helper()
	byIndex := impl.TwinsOf(numbered(a), numbered(b))
	var places []impl.Twin
	for i, twin := range byIndex {
		if a[twin.A].Print != b[twin.B].Print || i > 0 && compareTwins(byIndex[i-1], twin) >= 0 {
			t.Fatalf("%v and %v: %v", a, b, byIndex)
		}
		places = append(places, impl.Twin{A: a[twin.A].At, B: b[twin.B].At})
	}
	if len(byIndex) != countTwins(a, b) {
		t.Fatalf("%v and %v: %v", a, b, byIndex)
	}
	if twins := impl.TwinsOf(a, b); !slices.Equal(twins, places) {
		t.Fatalf("%v and %v: %v, not %v", a, b, twins, places)
	}
	turned := turnedTwins(impl.TwinsOf(b, a))
	slices.SortFunc(turned, compareTwins)
	slices.SortFunc(places, compareTwins)
	if !slices.Equal(turned, places) {
		t.Fatalf("%v and %v: %v, not %v", a, b, turned, places)
	}
}

func edgeMarks() [][]impl.Mark {
	return [][]impl.Mark{
		nil, {}, markRow(0, 0), markRow(98, 5), markRow(98, 5, 98, 5), markRow(98, 7, 98, 2, 3, 0, 98, 7), markRow(3, 1, 98, -1, 3, -2),
		markRow(math.MinInt, math.MaxInt, math.MaxInt, math.MinInt), markRow(math.MaxInt, math.MaxInt, math.MinInt, math.MinInt, -1, 0),
		markRow(-1, -1, 0, -1, prime, 4, -1, math.MinInt), markRow(0, 9, 1, 8, 2, 7, 3, 6, 98, 4, prime, 3),
	}
}

func TestP104TwinsTheOtherWayRound(t *testing.T) {
	d := &drawn{state: 8}
	lists := edgeMarks()
	for _, below := range []int{1, 2, 5, 40, 1000} {
		for _, n := range []int{1, 2, 7, 30, 60} {
			lists = append(lists, markRow(drawnNumbers(d, 2*n, below)...))
		}
	}
	for _, s := range []string{"aaaa", "abab", "aAapeq", "peq", "the old sea of stones", "a new sea of stones", "\xff\x80\xff\x80\x00", strings.Repeat("ab", 20)} {
		lists = append(lists, impl.MarksOf(s, 3, 1), impl.MarksOf(s, 1, 2), impl.MarksOf(s, 3, 4))
	}
	for _, a := range lists {
		for _, b := range lists {
			checkTwins(t, a, b)
		}
	}
	for _, s := range longTexts() {
		s = s[:min(len(s), 400)]
		a, b := impl.MarksOf(s, 4, 5), impl.MarksOf(s[len(s)/2:]+s[:len(s)/2], 4, 5)
		checkTwins(t, a, b)
	}
}

func twinRow(numbers ...int) []impl.Twin {
	var twins []impl.Twin
	for i := 0; i < len(numbers); i += 2 {
		twins = append(twins, impl.Twin{A: numbers[i], B: numbers[i+1]})
	}
	return twins
}

func TestP104TwinsOfSomeMarks(t *testing.T) {
	cases := []struct {
		a     []impl.Mark
		b     []impl.Mark
		twins []impl.Twin
	}{
		{nil, nil, nil}, {markRow(98, 0), nil, nil}, {nil, markRow(98, 0), nil}, {markRow(98, 0), markRow(99, 0), nil},
		{markRow(98, 0), markRow(98, 7), twinRow(0, 7)},
		{markRow(98, 0, 98, 1), markRow(98, 7, 98, 8), twinRow(0, 7, 0, 8, 1, 7, 1, 8)},
		{markRow(5, 0, 9, 1, 5, 2), markRow(9, 3, 5, 4, 9, 5), twinRow(0, 4, 1, 3, 1, 5, 2, 4)},
		{markRow(5, 9, 5, 1), markRow(5, 8, 5, 2), twinRow(9, 8, 9, 2, 1, 8, 1, 2)},
		{markRow(5, 1, 5, 1), markRow(5, 1), twinRow(1, 1, 1, 1)},
		{markRow(math.MinInt, math.MaxInt), markRow(math.MaxInt, 0, math.MinInt, math.MinInt), twinRow(math.MaxInt, math.MinInt)},
		// Different pieces whose fingerprints meet are twins too.
		{impl.MarksOf("aAa", 3, 1), impl.MarksOf("xpeq", 3, 1), twinRow(0, 1)},
	}
	for _, c := range cases {
		if twins := impl.TwinsOf(c.a, c.b); !slices.Equal(twins, c.twins) {
			t.Fatalf("%v and %v: %v, not %v", c.a, c.b, twins, c.twins)
		}
	}
}

// checkMarksAfter looks at the marks of a text with bytes behind it, and whether the new ones are told by the last window and these bytes.
func checkMarksAfter(t *testing.T, s string, more string, k int, w int) {
	t.Helper()
	marks := impl.MarksAfter(s, more, k, w)
	if want := impl.MarksOf(s+more, k, w); !slices.Equal(marks, want) {
		t.Fatalf("%q and %q, %d, %d: %v, not %v", s, more, k, w, marks, want)
	}
	of := impl.MarksOf(s, k, w)
	if len(marks) < len(of) || !slices.Equal(marks[:len(of)], of) {
		t.Fatalf("%q and %q, %d, %d: %v do not stay in %v", s, more, k, w, of, marks)
	}
	ahead := len(s) - impl.SureLength(k, w)
	if ahead <= 0 {
		return
	}
	ofLast, all := len(impl.MarksOf(s[ahead:], k, w)), impl.MarksAfter(s[ahead:], more, k, w)
	var told []impl.Mark
	for _, mark := range all[ofLast:] {
		told = append(told, impl.Mark{Print: mark.Print, At: ahead + mark.At})
	}
	if !slices.Equal(marks[len(of):], told) {
		t.Fatalf("%q and %q, %d, %d: %v, but %v by the last window", s, more, k, w, marks[len(of):], told)
	}
}

func TestP7MarksGrowWithTheText(t *testing.T) {
	sizes := [][2]int{{1, 1}, {1, 2}, {2, 1}, {2, 2}, {1, 4}, {3, 2}, {2, 5}, {sizeMost, 1}, {1, sizeMost}, {sizeMost, sizeMost}}
	for _, all := range append(allTexts("ab", 8), allTexts("a\x80\xff", 5)...) {
		for at := 0; at <= len(all); at++ {
			for _, size := range sizes {
				checkMarksAfter(t, all[:at], all[at:], size[0], size[1])
			}
		}
	}
	texts := fewTexts()
	for _, s := range texts {
		for _, more := range texts {
			for _, size := range [][2]int{{1, 1}, {1, 3}, {3, 1}, {3, 4}, {2, 60}} {
				checkMarksAfter(t, s, more, size[0], size[1])
			}
		}
	}
}

func TestP229MarksGrowWithTheTextUpTo1000(t *testing.T) {
	for _, all := range longTexts() {
		n := len(all)
		for _, size := range [][2]int{{1, 1}, {1, 9}, {9, 1}, {3, 4}, {5, 50}, {50, 5}, {1, n / 2}, {n / 2, n / 3}, {n, 1}, {1, n}, {n, 2}} {
			sure := impl.SureLength(size[0], size[1])
			for _, at := range []int{0, 1, 2, n / 3, sure - 2, sure - 1, sure, sure + 1, n - 2, n - 1, n} {
				at = max(0, min(at, n))
				checkMarksAfter(t, all[:at], all[at:], size[0], size[1])
			}
		}
	}
}

func TestP7MarksGrowByteByByte(t *testing.T) {
	d := &drawn{state: 9}
	all := drawnText(d, 300, 2) + strings.Repeat("a", 50) + drawnText(d, 100, 9)
	for at := range len(all) {
		checkMarksAfter(t, all[:at], all[at:at+1], 3, 6)
		checkMarksAfter(t, all[:at], "", 3, 6)
		checkMarksAfter(t, all[:at], all[at:], 1, 20)
	}
}

func TestP7MarksOfSomeTextsWithBytesBehind(t *testing.T) {
	cases := []struct {
		s     string
		more  string
		k     int
		w     int
		marks []impl.Mark
	}{
		{"", "", 1, 1, nil}, {"", "", 3, 4, nil}, {"", "a", 1, 1, markRow(98, 0)}, {"a", "", 1, 1, markRow(98, 0)},
		{"a", "b", 1, 1, markRow(98, 0, 99, 1)},
		{"a", "b", 2, 1, markRow(25285, 0)},
		{"a", "b", 1, 2, markRow(98, 0)},
		{"a", "b", 2, 2, nil},
		{"ab", "b", 1, 2, markRow(98, 0, 99, 2)},
		{"bab", "b", 1, 2, markRow(98, 1, 99, 3)},
		{"bab", "bb", 1, 3, markRow(98, 1, 99, 4)},
		{"aa", "aa", 1, 2, markRow(98, 1, 98, 2, 98, 3)},
		{"\xff\x80", "\xff\xff", 1, 2, markRow(129, 1, 256, 3)},
	}
	for _, c := range cases {
		if marks := impl.MarksAfter(c.s, c.more, c.k, c.w); !slices.Equal(marks, c.marks) {
			t.Fatalf("%q and %q, %d, %d: %v, not %v", c.s, c.more, c.k, c.w, marks, c.marks)
		}
	}
}

func TestP7NoMarksAfterWithSizesForWhichNothingIsSure(t *testing.T) {
	texts := []string{"", "a", "\xff", "the sea", strings.Repeat("a", 1000)}
	for _, n := range noSizes() {
		for _, other := range append(noSizes(), 1, 2, sizeMost) {
			for _, s := range texts {
				for _, more := range texts {
					if len(impl.MarksAfter(s, more, n, other)) != 0 || len(impl.MarksAfter(s, more, other, n)) != 0 {
						t.Fatalf("%q and %q, %d, %d", s, more, n, other)
					}
				}
			}
		}
	}
}

// The text is so long here that only the bound of the sizes keeps it from having marks.
func TestP7MarksAfterAtTheBoundOfSizes(t *testing.T) {
	s := strings.Repeat("ab", sizeMost/2) + "c"
	for _, size := range [][2]int{{sizeMost, 1}, {1, sizeMost}, {sizeMost, 2}, {2, sizeMost}} {
		checkMarksAfter(t, s, "ab", size[0], size[1])
		if len(impl.MarksAfter(s, "ab", size[0], size[1])) == 0 {
			t.Fatal(size)
		}
	}
	for _, size := range [][2]int{{sizeMost + 1, 1}, {1, sizeMost + 1}, {sizeMost + 1, 2}} {
		if marks := impl.MarksAfter(s, "ab", size[0], size[1]); len(marks) != 0 {
			t.Fatal(size, len(marks))
		}
	}
}

func TestMarkListsOwnTheirMemory(t *testing.T) {
	otherMark, otherTwin := impl.Mark{Print: -7, At: -7}, impl.Twin{A: -7, B: -7}
	for _, list := range append(edgeRows(), []int{3, 1, 1, 5, 4, 2}) {
		for w := 1; w <= len(list); w++ {
			checkListIsOwn(t, func() []int { return impl.ChosenOf(list, w) }, -7)
		}
	}
	for _, s := range []string{"a", "abab", "aaaa", "the sea of \xff the sea"} {
		for _, size := range [][2]int{{1, 1}, {2, 2}, {1, len(s)}, {len(s), 1}} {
			checkListIsOwn(t, func() []impl.Mark { return impl.MarksOf(s, size[0], size[1]) }, otherMark)
			for _, more := range []string{"", "b", s} {
				checkListIsOwn(t, func() []impl.Mark { return impl.MarksAfter(s, more, size[0], size[1]) }, otherMark)
			}
		}
	}
	for _, a := range edgeMarks() {
		for _, b := range edgeMarks() {
			checkListIsOwn(t, func() []impl.Twin { return impl.TwinsOf(a, b) }, otherTwin)
		}
	}
}

func TestChosenAndTwinsWriteToNoArgument(t *testing.T) {
	for _, list := range append(edgeRows(), longRows()...) {
		for _, w := range []int{math.MinInt, 0, 1, 2, 3, len(list) / 2, len(list), len(list) + 1, math.MaxInt} {
			checkListIsKept(t, list, math.MinInt, func(list []int) []int { return impl.ChosenOf(list, w) }, -7)
		}
	}
	behind, other := impl.Mark{Print: 98, At: 1}, impl.Twin{A: -7, B: -7}
	for _, a := range edgeMarks() {
		for _, b := range edgeMarks() {
			checkListIsKept(t, a, behind, func(list []impl.Mark) []impl.Twin { return impl.TwinsOf(list, b) }, other)
			checkListIsKept(t, b, behind, func(list []impl.Mark) []impl.Twin { return impl.TwinsOf(a, list) }, other)
			checkListIsKept(t, a, behind, func(list []impl.Mark) []impl.Twin { return impl.TwinsOf(list, list) }, other)
		}
	}
}

func TestMarksWriteToNoArgument(t *testing.T) {
	for _, s := range markTexts() {
		// The argument is part of a longer text, so that writing beside it is seen too.
		all := strings.Clone("ahead" + s + "behind")
		kept := strings.Clone(all)
		argument := all[5 : 5+len(s)]
		for _, size := range [][2]int{{0, 0}, {1, 1}, {1, 2}, {3, 2}, {1, len(s)}, {len(s), 1}, {math.MaxInt, math.MaxInt}} {
			impl.MarksOf(argument, size[0], size[1])
			impl.MarksAfter(argument, "the sea", size[0], size[1])
			impl.MarksAfter("the sea", argument, size[0], size[1])
			impl.MarksAfter(argument, argument, size[0], size[1])
			impl.MarksAfter(argument, "", size[0], size[1])
		}
		if all != kept {
			t.Fatalf("%q became %q", kept, all)
		}
	}
}
