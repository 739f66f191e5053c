package tests

import (
	"encoding/binary"
	"math"
	"slices"
	"strings"
	"testing"

	"loop.example/copiedtexts/impl"
)

var (
	_ func(int) string                   = impl.PutNumber
	_ func(string, int) (int, int, bool) = impl.TakeNumber
	_ func([]impl.Entry) string          = impl.ShelfText
	_ func(string) ([]impl.Entry, bool)  = impl.ReadShelf
)

// putByLibrary writes a number with the library, which has the same order of bits.
func putByLibrary(n int) string {
	return string(binary.AppendUvarint(nil, uint64(n)))
}

// takeByLibrary reads a number with the library, which also reads numbers beyond the largest int and numbers with more bytes than they need.
func takeByLibrary(s string, at int) (int, int, bool) {
	if at < 0 || at > len(s) {
		return 0, 0, false
	}
	n, bytes := binary.Uvarint([]byte(s[at:]))
	if bytes <= 0 || n > math.MaxInt || len(putByLibrary(int(n))) != bytes {
		return 0, 0, false
	}
	return int(n), at + bytes, true
}

// numbersText writes numbers one behind the other.
func numbersText(numbers ...int) string {
	var text strings.Builder
	for _, n := range numbers {
		text.WriteString(putByLibrary(n))
	}
	return text.String()
}

// edgeNumbers returns the numbers around those with one byte more, and the largest ints.
func edgeNumbers() []int {
	numbers := []int{0, 1, 2, 100, 126, 255, 256, 300, prime - 1, prime, math.MaxInt - 2, math.MaxInt - 1, math.MaxInt}
	for bits := 7; bits < 63; bits += 7 {
		numbers = append(numbers, 1<<bits-1, 1<<bits, 1<<bits+1, 1<<bits+1<<(bits-1), 1<<(bits-1))
	}
	return numbers
}

func negativeNumbers() []int {
	return []int{-1, -2, -127, -128, -129, -16384, -1 << 32, -1 << 62, math.MinInt + 1, math.MinInt}
}

// drawnNumber returns a number of any length.
func drawnNumber(d *drawn) int {
	n := d.below(1<<31)<<32 + d.below(1<<31)<<1 + d.below(2)
	return n >> d.below(63)
}

// edgeNumberTexts returns texts that go on for some bytes and end with one of 0, with others, or not at all.
func edgeNumberTexts() []string {
	var texts []string
	for n := range 14 {
		for _, b := range []string{"\x80", "\x81", "\xaa", "\xff"} {
			for _, end := range []string{"", "\x00", "\x01", "\x02", "\x7f", "\x80\x00", "\x01\x00", "\x00\x01", "\x7f\xff"} {
				texts = append(texts, strings.Repeat(b, n)+end)
			}
		}
	}
	return texts
}

// numberTexts returns all texts of up to two bytes, all texts of a few bytes with which numbers begin, go on and end, and named ones.
func numberTexts() []string {
	return slices.Concat(allTexts(allBytes(), 2), allTexts("\x00\x01\x7f\x80\x81\xff", 5), edgeNumberTexts(), namedTexts())
}

// longNumberTexts returns texts of up to 1000 bytes: numbers one behind the other, drawn bytes of which few or many go on, and bytes that all do.
func longNumberTexts() []string {
	d := &drawn{state: 21}
	texts := append(longTexts(), strings.Repeat("\x80", 1000), strings.Repeat("\x80", 999)+"\x01", strings.Repeat("\xff\xff\xff\xff\xff\xff\xff\xff\x7f", 111))
	for range 10 {
		var text string
		for len(text) < 990 {
			text += putByLibrary(drawnNumber(d))
		}
		texts = append(texts, text)
	}
	for _, alphabet := range []string{"\x00\x80", "\x00\x01\x80\x81", "\x01\x80\x80\x80\x80\xff\xff\xff", "\x00\x01\x02\x7f\x80\xff", allBytes()} {
		for _, n := range []int{100, 1000} {
			texts = append(texts, textOfBytes(d, alphabet, n))
		}
	}
	return texts
}

// lowBits is the number whose bits the lowest seven of some bytes are, also of bytes that are no number; those beyond an int are left out.
func lowBits(s string) int {
	n := 0
	for i := range len(s) {
		n += int(s[i]&0x7f) << (7 * i)
	}
	return n & math.MaxInt
}

// waysOfNumber returns the places behind all numbers that are written from a place on.
func waysOfNumber(s string, at int) []int {
	var ends []int
	for to := at + 1; to <= min(len(s), at+12); to++ {
		if impl.PutNumber(lowBits(s[at:to])) == s[at:to] {
			ends = append(ends, to)
		}
	}
	return ends
}

func checkTake(t *testing.T, s string, at int) {
	t.Helper()
	n, behind, ok := impl.TakeNumber(s, at)
	wantN, wantBehind, wantOk := takeByLibrary(s, at)
	if n != wantN || behind != wantBehind || ok != wantOk {
		t.Fatalf("%q from %d: %d, %d, %v, not %d, %d, %v", s, at, n, behind, ok, wantN, wantBehind, wantOk)
	}
	if ok && (n < 0 || s[at:behind] != impl.PutNumber(n)) {
		t.Fatalf("%q from %d: %d is written %q", s, at, n, impl.PutNumber(n))
	}
}

// checkTakeOneWay is for places of a text, and the one at its end.
func checkTakeOneWay(t *testing.T, s string, at int) {
	t.Helper()
	checkTake(t, s, at)
	ways := waysOfNumber(s, at)
	_, behind, ok := impl.TakeNumber(s, at)
	if len(ways) > 1 || ok != (len(ways) == 1) || ok && behind != ways[0] {
		t.Fatalf("%q from %d: up to %d, %v, not %v", s, at, behind, ok, ways)
	}
}

func TestP10EachTextIsANumberInOneWayOrNone(t *testing.T) {
	for _, s := range numberTexts() {
		for at := range len(s) + 1 {
			checkTakeOneWay(t, s, at)
		}
	}
}

func TestP232EachTextIsANumberInOneWayOrNoneUpTo1000(t *testing.T) {
	for _, s := range longNumberTexts() {
		for at := range len(s) + 1 {
			checkTakeOneWay(t, s, at)
		}
	}
}

func checkNoNumber(t *testing.T, s string, at int) {
	t.Helper()
	if n, behind, ok := impl.TakeNumber(s, at); n != 0 || behind != 0 || ok {
		t.Fatalf("%q from %d: %d, %d, %v", s, at, n, behind, ok)
	}
}

func TestP10NoNumberAtOtherPlaces(t *testing.T) {
	for _, s := range slices.Concat([]string{"", "\x00", "\x01\x02", "\x80\x01", "\xff\xff\xff\xff\xff\xff\xff\xff\x7f"}, fewTexts(), longNumberTexts()) {
		for _, at := range []int{math.MinInt, math.MinInt + 1, -len(s) - 1, -9, -2, -1, len(s), len(s) + 1, len(s) + 9, 1 << 40, math.MaxInt - 9, math.MaxInt - 1, math.MaxInt} {
			if at < 0 || at >= len(s) {
				checkNoNumber(t, s, at)
			}
		}
	}
}

func TestP10SomeTextsAreNumbers(t *testing.T) {
	cases := []struct {
		s      string
		at     int
		n      int
		behind int
	}{
		{"\x00", 0, 0, 1}, {"\x00\x00", 0, 0, 1}, {"\x00\x00", 1, 0, 2}, {"\x7f", 0, 127, 1}, {"a", 0, 97, 1},
		{"\x80\x01", 0, 128, 2}, {"\x80\x01", 1, 1, 2}, {"\xac\x02", 0, 300, 2}, {"\xac\x02\x80", 0, 300, 2}, {"\xff\x7f\x00", 0, 16383, 2},
		{"\x80\x80\x01", 0, 16384, 3}, {"x\x81\x80\x01y", 1, 16385, 4}, {"\x80\x80\x01", 1, 128, 3},
		{"\xff\xff\xff\xff\xff\xff\xff\xff\x7f", 0, math.MaxInt, 9}, {"\xfe\xff\xff\xff\xff\xff\xff\xff\x7f\x01", 0, math.MaxInt - 1, 9},
		{"\x80\x80\x80\x80\x80\x80\x80\x80\x01", 0, 1 << 56, 9}, {"\x80\x80\x80\x80\x80\x80\x80\x80\x40", 0, 1 << 62, 9},
		{"\x80\x80\x80\x80\x80\x80\x80\x01", 0, 1 << 49, 8},
		// Ten bytes are none from the first one on, but from the second one on there are nine.
		{"\xff\xff\xff\xff\xff\xff\xff\xff\xff\x7f", 1, math.MaxInt, 10},
	}
	for _, c := range cases {
		if n, behind, ok := impl.TakeNumber(c.s, c.at); n != c.n || behind != c.behind || !ok {
			t.Fatalf("%q from %d: %d, %d, %v, not %d, %d", c.s, c.at, n, behind, ok, c.n, c.behind)
		}
	}
}

func TestP10SomeTextsAreNoNumbers(t *testing.T) {
	for _, s := range []string{
		// The text stops within a number.
		"", "\x80", "\xff", "\xac", "\x81\x80", "\xff\xff\xff\xff\xff\xff\xff\xff", "\xff\xff\xff\xff\xff\xff\xff\xff\xff\xff",
		// There are more bytes than needed.
		"\x80\x00", "\x81\x00", "\xff\x00", "\xac\x82\x00", "\x80\x80\x00", "\x81\x80\x80\x80\x80\x80\x80\x80\x00", "\xff\xff\xff\xff\xff\xff\xff\xff\x00", "\x80\x00\x01",
		// Ten bytes and more are beyond the largest int, or more than needed.
		"\x80\x80\x80\x80\x80\x80\x80\x80\x80\x01", "\xff\xff\xff\xff\xff\xff\xff\xff\xff\x01", "\xff\xff\xff\xff\xff\xff\xff\xff\xff\x00", "\xff\xff\xff\xff\xff\xff\xff\xff\xff\x7f",
		"\x80\x80\x80\x80\x80\x80\x80\x80\x80\x02", "\x81\x80\x80\x80\x80\x80\x80\x80\x80\x02", "\x85\x80\x80\x80\x80\x80\x80\x80\x80\x00", "\x81\x80\x80\x80\x80\x80\x80\x80\x80\x80\x01",
		strings.Repeat("\x80", 10) + "\x01", strings.Repeat("\x80", 64) + "\x01", strings.Repeat("\xff", 1000) + "\x01",
	} {
		checkNoNumber(t, s, 0)
		checkNoNumber(t, "\x05"+s, 1)
	}
}

func checkPut(t *testing.T, n int) {
	t.Helper()
	s := impl.PutNumber(n)
	if s != putByLibrary(n) {
		t.Fatalf("%d: %q, not %q", n, s, putByLibrary(n))
	}
	for _, text := range []string{s, "\xff" + s, "\x00" + s + "\x00", "\x80\x01" + s + "\xff", s + s} {
		at := strings.Index(text, s)
		if back, behind, ok := impl.TakeNumber(text, at); back != n || behind != at+len(s) || !ok {
			t.Fatalf("%d in %q: %d, %d, %v", n, text, back, behind, ok)
		}
	}
	for to := range len(s) {
		checkNoNumber(t, s[:to], 0)
	}
	// The same number with one byte more is none.
	longer := s[:len(s)-1] + string([]byte{s[len(s)-1] + 128, 0})
	checkNoNumber(t, longer, 0)
}

func TestP112WhatIsWrittenIsReadBack(t *testing.T) {
	for n := range 1 << 15 {
		checkPut(t, n)
	}
	for _, n := range edgeNumbers() {
		checkPut(t, n)
	}
	d := &drawn{state: 22}
	for range 20000 {
		checkPut(t, drawnNumber(d))
	}
}

func TestP112SomeNumbers(t *testing.T) {
	cases := []struct {
		n int
		s string
	}{
		{0, "\x00"}, {1, "\x01"}, {97, "a"}, {127, "\x7f"}, {128, "\x80\x01"}, {129, "\x81\x01"}, {255, "\xff\x01"}, {256, "\x80\x02"}, {300, "\xac\x02"},
		{16383, "\xff\x7f"}, {16384, "\x80\x80\x01"}, {prime - 1, "\xc2\x84\x3d"}, {1 << 21, "\x80\x80\x80\x01"}, {1 << 56, "\x80\x80\x80\x80\x80\x80\x80\x80\x01"},
		{1<<56 - 1, "\xff\xff\xff\xff\xff\xff\xff\x7f"}, {math.MaxInt - 1, "\xfe\xff\xff\xff\xff\xff\xff\xff\x7f"}, {math.MaxInt, "\xff\xff\xff\xff\xff\xff\xff\xff\x7f"},
	}
	for _, c := range cases {
		if s := impl.PutNumber(c.n); s != c.s {
			t.Fatalf("%d: %q, not %q", c.n, s, c.s)
		}
	}
}

func TestP112NumbersBelow0AreNotWritten(t *testing.T) {
	for _, n := range negativeNumbers() {
		if s := impl.PutNumber(n); s != "" {
			t.Fatalf("%d: %q", n, s)
		}
	}
}

// shelfTextByRules writes a shelf as the document says it.
func shelfTextByRules(list []impl.Entry) string {
	numbers := []int{len(list)}
	for i, entry := range list {
		if i > 0 {
			ahead := list[i-1]
			samePrint := entry.Print == ahead.Print
			if samePrint && entry.Doc == ahead.Doc {
				entry.At -= ahead.At + 1
			}
			if samePrint {
				entry.Doc -= ahead.Doc
			}
			entry.Print -= ahead.Print
		}
		numbers = append(numbers, entry.Print, entry.Doc, entry.At)
	}
	return numbersText(numbers...)
}

// numbersOf returns the numbers of which a text is, and whether it is of numbers alone.
func numbersOf(s string) ([]uint64, bool) {
	var numbers []uint64
	for at := 0; at < len(s); {
		n, behind, ok := takeByLibrary(s, at)
		if !ok {
			return nil, false
		}
		numbers = append(numbers, uint64(n))
		at = behind
	}
	return numbers, true
}

// readByRules adds up the numbers of a text with one bit more than an int has.
func readByRules(s string) ([]impl.Entry, bool) {
	numbers, ok := numbersOf(s)
	if !ok || len(numbers)%3 != 1 || numbers[0] != uint64(len(numbers)/3) {
		return nil, false
	}
	var list []impl.Entry
	for i := 1; i < len(numbers); i += 3 {
		print, doc, at := numbers[i], numbers[i+1], numbers[i+2]
		if i > 1 {
			ahead := list[len(list)-1]
			if print == 0 && doc == 0 {
				at += uint64(ahead.At) + 1
			}
			if print == 0 {
				doc += uint64(ahead.Doc)
			}
			print += uint64(ahead.Print)
		}
		if print >= prime || doc > math.MaxInt || at > math.MaxInt {
			return nil, false
		}
		list = append(list, impl.Entry{Print: int(print), Doc: int(doc), At: int(at)})
	}
	return list, true
}

func checkRead(t *testing.T, s string) {
	t.Helper()
	list, ok := impl.ReadShelf(s)
	want, wantOk := readByRules(s)
	if ok != wantOk || !slices.Equal(list, want) {
		t.Fatalf("%q: %v, %v, not %v, %v", s, list, ok, want, wantOk)
	}
	if !ok {
		return
	}
	if !impl.ShelfOk(list) {
		t.Fatalf("%q: %v", s, list)
	}
	if text := impl.ShelfText(list); text != s {
		t.Fatalf("%q: %v, and that is %q", s, list, text)
	}
}

// edgeShelves returns shelves whose numbers, or what they are more than those ahead, need one byte more, or are as great as can be.
func edgeShelves() [][]impl.Entry {
	var shelves [][]impl.Entry
	for _, n := range edgeNumbers() {
		for _, ahead := range []int{0, 1, 127, 128, math.MaxInt / 2} {
			if n < prime {
				shelves = append(shelves, entryRow(n, ahead, n), shelfOfEntries(entryRow(ahead%prime, n, n, n, ahead, n)))
			}
			shelves = append(shelves,
				shelfOfEntries(entryRow(7, ahead, n, 7, n, ahead)), shelfOfEntries(entryRow(7, n, ahead, 7, n, n)), shelfOfEntries(entryRow(0, 0, ahead, 0, 0, n)),
				shelfOfEntries(entryRow(0, ahead, n, 0, n, n, prime-1, n, n)),
			)
		}
	}
	for _, n := range []int{126, 127, 128, 129} {
		var list []impl.Entry
		for i := range n {
			list = append(list, impl.Entry{Print: i / 3, Doc: i, At: n - i})
		}
		shelves = append(shelves, list)
	}
	return shelves
}

func shortShelves() [][]impl.Entry {
	return slices.Concat(smallShelves(), textShelves(), edgeShelves(), [][]impl.Entry{nil})
}

// changedTexts returns a text that stops or begins at each of some places, or has one byte more, another one or none there.
func changedTexts(s string, places []int) []string {
	var texts []string
	for _, at := range places {
		texts = append(texts, s[:at], s[at:])
		for _, b := range []string{"\x00", "\x01", "\x7f", "\x80", "\xff"} {
			texts = append(texts, s[:at]+b+s[at:])
			if at < len(s) {
				texts = append(texts, s[:at]+b+s[at+1:])
			}
		}
		if at < len(s) {
			more, turned := string([]byte{s[at] + 1}), string([]byte{s[at] ^ 128})
			texts = append(texts, s[:at]+s[at+1:], s[:at]+more+s[at+1:], s[:at]+turned+s[at+1:])
		}
	}
	return texts
}

func allPlaces(s string) []int {
	return ascendingNumbers(len(s) + 1)
}

func TestP11TextsOfShelvesAndOthersNearThem(t *testing.T) {
	for _, list := range shortShelves() {
		s := shelfTextByRules(list)
		checkRead(t, s)
		for _, other := range changedTexts(s, allPlaces(s)) {
			checkRead(t, other)
		}
	}
}

func TestP11AllShortTexts(t *testing.T) {
	for _, texts := range [][]string{allTexts("\x00\x01\x02", 10), allTexts("\x00\x01\x7f\x80\xff", 6), numberTexts()} {
		for _, s := range texts {
			checkRead(t, s)
		}
	}
}

// Each row of numbers is the text of a shelf, or is refused, also if they are beyond an int, or beyond the fingerprints, when they are added up.
func TestP11RowsOfNumbers(t *testing.T) {
	prints := []int{0, 1, prime - 2, prime - 1, prime, math.MaxInt - prime, math.MaxInt}
	others := []int{0, 1, 1 << 62, math.MaxInt - 1, math.MaxInt}
	told := entriesOf(prints, others, others)
	for _, a := range told {
		for many := range 3 {
			checkRead(t, numbersText(many, a.Print, a.Doc, a.At))
		}
		for _, b := range told {
			checkRead(t, numbersText(2, a.Print, a.Doc, a.At, b.Print, b.Doc, b.At))
		}
	}
}

func TestP11SumsThatComeBack(t *testing.T) {
	// Behind numbers that are too great others follow with which the sum of all would be small again.
	for _, numbers := range [][]int{
		{3, math.MaxInt, 0, 0, math.MaxInt, 0, 0, 3, 0, 0},
		{3, prime, 0, 0, math.MaxInt, 0, 0, math.MaxInt, 0, 0},
		{3, 5, math.MaxInt, 0, 0, math.MaxInt, 0, 0, 9, 0},
		{4, 5, math.MaxInt, 0, 0, math.MaxInt, 0, 0, 2, 0, 0, 7, 0},
		{3, 5, 1, math.MaxInt, 0, 0, math.MaxInt, 0, 0, 9},
		{4, 5, 1, math.MaxInt, 0, 0, math.MaxInt, 0, 0, 0, 0, 0, 7},
		{2, 5, 1, math.MaxInt, 0, 0, 0}, {2, 5, math.MaxInt, 1, 0, 1, 1}, {2, prime - 1, 1, 1, 1, 1, 1},
	} {
		s := numbersText(numbers...)
		checkRead(t, s)
		checkNoShelfText(t, s)
	}
}

func checkNoShelfText(t *testing.T, s string) {
	t.Helper()
	if list, ok := impl.ReadShelf(s); len(list) != 0 || ok {
		t.Fatalf("%q: %v, %v", s, list, ok)
	}
}

func TestP11SomeTextsAreShelves(t *testing.T) {
	cases := []struct {
		s    string
		list []impl.Entry
	}{
		{"\x00", nil}, {"\x01\x00\x00\x00", entryRow(0, 0, 0)}, {"\x01abc", entryRow(97, 98, 99)},
		{"\x02\x05\x01\x04\x00\x00\x00", entryRow(5, 1, 4, 5, 1, 5)},
		{"\x02\x05\x01\x04\x00\x03\x00", entryRow(5, 1, 4, 5, 4, 0)},
		{"\x02\x05\x01\x04\x01\x00\x00", entryRow(5, 1, 4, 6, 0, 0)},
		{"\x02\x00\x00\x00\x00\x00\x00", entryRow(0, 0, 0, 0, 0, 1)},
		{"\x03\x03\x01\x04\x00\x00\x01\x02\x00\x00", entryRow(3, 1, 4, 3, 1, 6, 5, 0, 0)},
		{"\x01\x80\x01\xff\x01\xac\x02", entryRow(128, 255, 300)},
		{"\x01\xc2\x84\x3d\xff\xff\xff\xff\xff\xff\xff\xff\x7f\xff\xff\xff\xff\xff\xff\xff\xff\x7f", entryRow(prime-1, math.MaxInt, math.MaxInt)},
		{numbersText(2, 9, 1, math.MaxInt-1, 0, 0, 0), entryRow(9, 1, math.MaxInt-1, 9, 1, math.MaxInt)},
		{numbersText(2, 9, 1, 0, 0, 0, math.MaxInt-1), entryRow(9, 1, 0, 9, 1, math.MaxInt)},
		{numbersText(2, 9, 1, 7, 0, math.MaxInt-1, 7), entryRow(9, 1, 7, 9, math.MaxInt, 7)},
		{numbersText(2, 9, math.MaxInt, math.MaxInt, prime-10, math.MaxInt, math.MaxInt), entryRow(9, math.MaxInt, math.MaxInt, prime-1, math.MaxInt, math.MaxInt)},
	}
	for _, c := range cases {
		if list, ok := impl.ReadShelf(c.s); !slices.Equal(list, c.list) || !ok {
			t.Fatalf("%q: %v, %v, not %v", c.s, list, ok, c.list)
		}
		if s := impl.ShelfText(c.list); s != c.s {
			t.Fatalf("%v: %q, not %q", c.list, s, c.s)
		}
	}
}

func TestP11SomeTextsAreNoShelves(t *testing.T) {
	for _, s := range []string{
		"", "\x80", "\xff", "\x80\x00", "\x80\x80",
		// Fewer entries than the text says.
		"\x01", "\x01\x00", "\x01\x00\x00", "\x02\x00\x00\x00", "\x02\x00\x00\x00\x00\x00", "\x03abcabc", "\x7f", "\xff\x01abc",
		// More entries than it says, or bytes behind the last one.
		"\x00\x00", "\x00\x01", "\x00\x80", "\x00\xff", "\x00abc", "\x01\x00\x00\x00\x00", "\x01abcabc", "\x01abc\x80", "\x01abc\xff",
		// A number stops, or has more bytes than it needs.
		"\x01ab\xff", "\x01a\xffc", "\x01\xff\xff\xff", "\x01\x80\x00\x01\x01", "\x01\x01\x80\x00\x01", "\x01\x01\x01\x80\x00", "\x81\x00abc", "\x80\x00",
		// The fingerprint, the text or the place is too great.
		numbersText(1, prime, 0, 0), numbersText(1, prime+5, 0, 0), numbersText(1, math.MaxInt, 0, 0), numbersText(2, prime-1, 0, 0, 1, 0, 0), numbersText(2, 5, 0, 0, prime-5, 0, 0),
		numbersText(2, 5, 0, 0, math.MaxInt, 0, 0), numbersText(2, 5, 1, 0, 0, math.MaxInt, 0), numbersText(2, 5, 1, 1, 0, 0, math.MaxInt-1), numbersText(2, 5, 1, math.MaxInt, 0, 0, math.MaxInt),
		numbersText(2, 0, 0, math.MaxInt, 0, 0, 0), numbersText(2, 0, math.MaxInt, 0, 0, 1, 0),
		"\x01\x00\x00\xff\xff\xff\xff\xff\xff\xff\xff\xff\x01", "\x01\x00\xff\xff\xff\xff\xff\xff\xff\xff\xff\x01\x00",
	} {
		checkNoShelfText(t, s)
	}
}

// Texts that say far more entries than they have are refused without room for these.
func TestP11TextsThatSayTooMuch(t *testing.T) {
	list := entriesOf([]int{0, 4}, []int{0, 3}, []int{0, 8})
	entries := shelfTextByRules(list)[1:]
	// Three times some of these, in 64 bits, is a small number again.
	for _, many := range append(edgeNumbers(), math.MaxInt/3, math.MaxInt/3+1, math.MaxInt/3*2+1, math.MaxInt/3*2+2, math.MaxInt/3*2+3) {
		for _, rest := range []string{"", "\x00", "\x00\x00\x00", entries, entries + entries} {
			if many > 0 {
				checkRead(t, numbersText(many)+rest)
			}
			if many > len(rest)/3 {
				checkNoShelfText(t, numbersText(many)+rest)
			}
		}
	}
	for many := range 20 {
		s := numbersText(many) + entries
		if _, ok := impl.ReadShelf(s); ok != (many == len(list)) {
			t.Fatalf("%d entries of %d: %v", many, len(list), ok)
		}
	}
}

func TestP233EveryTextIsAShelfInOneWayOrNoneUpTo1000(t *testing.T) {
	d := &drawn{state: 23}
	for _, list := range longShelves() {
		s := shelfTextByRules(list)
		checkRead(t, s)
		places := append(drawnNumbers(d, 40, len(s)), 0, 1, 2, 3, len(s)-1, len(s))
		for _, other := range changedTexts(s, places) {
			checkRead(t, other)
		}
		for _, many := range []int{0, 1, len(list) - 1, len(list) + 1, len(list) + 128, math.MaxInt} {
			checkRead(t, numbersText(many)+s[len(putByLibrary(len(list))):])
		}
	}
	for _, s := range longNumberTexts() {
		checkRead(t, s)
		// The same bytes, with as many entries ahead as there could be.
		numbers, _ := numbersOf(s)
		for _, many := range []int{len(s) / 3, (len(s) + 2) / 3, len(numbers) / 3} {
			checkRead(t, numbersText(many)+s)
		}
	}
	// The fingerprints of some of these are too great when they are added up.
	for range 2000 {
		many := d.below(300)
		checkRead(t, numbersText(append([]int{many}, drawnNumbers(d, 3*many, 1+d.below(20000))...)...))
	}
}

func checkWritten(t *testing.T, list []impl.Entry) {
	t.Helper()
	s := impl.ShelfText(list)
	if want := shelfTextByRules(list); s != want {
		t.Fatalf("%v: %q, not %q", list, s, want)
	}
	if back, ok := impl.ReadShelf(s); !slices.Equal(back, list) || !ok {
		t.Fatalf("%v: %q, and that is %v, %v", list, s, back, ok)
	}
}

func TestP113AShelfThatIsWrittenIsReadBack(t *testing.T) {
	for _, list := range slices.Concat(shortShelves(), longShelves()) {
		checkWritten(t, list)
	}
	shelves := textShelves()
	for _, a := range shelves {
		for _, b := range shelves {
			checkWritten(t, impl.ShelfJoin(a, b))
		}
	}
}

func TestP113EntriesThatAreNoShelf(t *testing.T) {
	lists := noShelves()
	for _, list := range longShelves() {
		lists = append(lists, append(slices.Clone(list), list[len(list)-1]), slices.Concat(list, list))
	}
	for _, list := range lists {
		if s := impl.ShelfText(list); s != "" {
			t.Fatalf("%v: %q", list, s)
		}
	}
}

// The shelf is so long here that it is written and read in time only if nothing is gone through for each entry.
func TestP113ALongShelf(t *testing.T) {
	d := &drawn{state: 24}
	checkWritten(t, drawnShelf(d, 1<<18, prime, 1000, 1<<30))
	checkWritten(t, drawnShelf(d, 1<<18, 30, 100, 1<<30))
}

func TestP114ThreeBytesForEachEntry(t *testing.T) {
	for _, list := range slices.Concat(shortShelves(), longShelves()) {
		if s := impl.ShelfText(list); len(s) < len(impl.PutNumber(len(list)))+3*len(list) {
			t.Fatalf("%v: %q", list, s)
		}
	}
	// Shelves with small numbers have no byte more.
	for n := range 200 {
		var list []impl.Entry
		for at := range n {
			list = append(list, impl.Entry{At: at})
		}
		if s := impl.ShelfText(list); len(s) != len(impl.PutNumber(n))+3*n {
			t.Fatalf("%d entries: %q", n, s)
		}
	}
}

func TestP114NoTextBeginsThatOfAnotherShelf(t *testing.T) {
	shelves := slices.Concat(shortShelves(), longShelves())
	for _, list := range longShelves() {
		shelves = append(shelves, list[:len(list)-1], list[1:], list[:len(list)/2])
	}
	shelfOf := map[string][]impl.Entry{}
	var texts []string
	for _, list := range shelves {
		s := impl.ShelfText(list)
		other, seen := shelfOf[s]
		if seen && !slices.Equal(other, list) {
			t.Fatalf("%v and %v: %q", list, other, s)
		}
		if !seen {
			texts = append(texts, s)
		}
		shelfOf[s] = list
	}
	// In order, a text that begins another one begins also the one behind it.
	slices.Sort(texts)
	for i := 1; i < len(texts); i++ {
		if strings.HasPrefix(texts[i], texts[i-1]) {
			t.Fatalf("%v and %v: %q and %q", shelfOf[texts[i-1]], shelfOf[texts[i]], texts[i-1], texts[i])
		}
	}
}

func TestP114WhatBeginsOrGoesOnIsNoShelf(t *testing.T) {
	for _, list := range shortShelves() {
		s := impl.ShelfText(list)
		for to := range len(s) {
			checkNoShelfText(t, s[:to])
		}
		for b := range 256 {
			checkNoShelfText(t, s+string([]byte{byte(b)}))
		}
		checkNoShelfText(t, s+s)
	}
}

func TestShelvesThatAreReadOwnTheirMemory(t *testing.T) {
	for _, list := range append(shortShelves(), longShelves()[0]) {
		s := shelfTextByRules(list)
		read := func() []impl.Entry {
			list, _ := impl.ReadShelf(s)
			return list
		}
		checkListIsOwn(t, read, impl.Entry{Print: -7, Doc: -7, At: -7})
	}
}

func TestTextsOfShelvesOwnTheirMemory(t *testing.T) {
	for _, list := range shortShelves() {
		checkNoOverlap(t, "ShelfText", []string{impl.ShelfText(list), impl.ShelfText(list)}, nil)
	}
	for _, n := range edgeNumbers() {
		checkNoOverlap(t, "PutNumber", []string{impl.PutNumber(n), impl.PutNumber(n)}, nil)
	}
}

func TestWritingShelvesWritesToNoArgument(t *testing.T) {
	behind := impl.Entry{Print: 98, Doc: 1, At: 1}
	for _, list := range slices.Concat(shortShelves(), longShelves()[:8], noShelves()) {
		checkListIsKept(t, list, behind, func(list []impl.Entry) []byte { return []byte(impl.ShelfText(list)) }, 7)
	}
}

func TestReadingShelvesWritesToNoArgument(t *testing.T) {
	texts := append(edgeNumberTexts(), fewTexts()...)
	for _, list := range textShelves() {
		texts = append(texts, shelfTextByRules(list))
	}
	for _, s := range texts {
		// The argument is part of a longer text, so that writing beside it is seen too.
		all := strings.Clone("ahead" + s + "behind")
		kept := strings.Clone(all)
		part := all[5 : 5+len(s)]
		list, _ := impl.ReadShelf(part)
		scribbled(list, impl.Entry{Print: -7, Doc: -7, At: -7})
		for _, at := range []int{-1, 0, len(s) / 2, len(s), math.MaxInt} {
			impl.TakeNumber(part, at)
		}
		if all != kept {
			t.Fatalf("%q became %q", kept, all)
		}
	}
}
