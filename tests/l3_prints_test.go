package tests

import (
	"math"
	"math/big"
	"slices"
	"strings"
	"testing"

	"loop.example/copiedtexts/impl"
)

var (
	_ func(string) int             = impl.PrintOf
	_ func(int) int                = impl.PrintPower
	_ func(string, int) []int      = impl.PrintsOf
	_ func(int, int, int, int) int = impl.RollPrint
	_ func(int, int, int) int      = impl.JoinPrint
	_ func(string, string) []int   = impl.FindPrint
)

// The document's numbers are written again here, so that a test fails if those of the program are others.
const (
	base  = 257
	prime = 1000003
)

func TestConstantsOfPrints(t *testing.T) {
	if impl.PrintBase != base || impl.PrintMod != prime || !big.NewInt(impl.PrintMod).ProbablyPrime(20) {
		t.Fatal(impl.PrintBase, impl.PrintMod)
	}
}

func powerByBig(n int) int {
	power := new(big.Int).Exp(big.NewInt(base), big.NewInt(int64(n)), big.NewInt(prime))
	return int(power.Int64())
}

// printByBig tells a fingerprint from the back, and looks for the rest by the prime only at the end.
func printByBig(s string) int {
	sum, power := new(big.Int), big.NewInt(1)
	for i := len(s) - 1; i >= 0; i-- {
		sum.Add(sum, new(big.Int).Mul(power, big.NewInt(int64(s[i])+1)))
		power = new(big.Int).Mul(power, big.NewInt(base))
	}
	return int(sum.Mod(sum, big.NewInt(prime)).Int64())
}

// rollByBig tells what RollPrint is for valid numbers, also for those that no piece has.
func rollByBig(n int, k int, gone int, come int) int {
	first := new(big.Int).Mul(big.NewInt(int64(gone)+1), big.NewInt(int64(powerByBig(k-1))))
	left := first.Sub(big.NewInt(int64(n)), first)
	left.Mul(left, big.NewInt(base))
	left.Add(left, big.NewInt(int64(come)+1))
	return int(left.Mod(left, big.NewInt(prime)).Int64())
}

func joinByBig(a int, b int, bytes int) int {
	sum := new(big.Int).Mul(big.NewInt(int64(a)), big.NewInt(int64(powerByBig(bytes))))
	sum.Add(sum, big.NewInt(int64(b)))
	return int(sum.Mod(sum, big.NewInt(prime)).Int64())
}

// nullText is a text with the fingerprint 0: 15, 36 and 16 are the digits of the prime to the base of fingerprints.
const nullText = "\x0e\x23\x0f"

// meetingTexts returns pairs of different texts with the same fingerprint.
func meetingTexts() [][2]string {
	return [][2]string{
		{"aAa", "peq"}, {"AAA", "PeQ"}, {"\x80\x80\x80", "\x8f\xa4\x90"}, {"the aAa sea", "the peq sea"},
		{"aAaaAa", "peqpeq"}, {"aAapeq", "peqaAa"}, {strings.Repeat("aAa", 100), strings.Repeat("peq", 100)},
		{"", nullText}, {nullText, nullText + nullText}, {"a", nullText + "a"}, {"\xff\x00", nullText + "\xff\x00"},
	}
}

// printTexts returns short texts of all kinds, and such whose fingerprints meet.
func printTexts() []string {
	texts := append(namedTexts(), allTexts("ab\x00\xff", 5)...)
	for _, pair := range meetingTexts() {
		texts = append(texts, pair[0], pair[1], pair[0]+pair[1], pair[1]+pair[0]+"\x00"+pair[0])
	}
	return texts
}

// fewTexts returns texts for tests that look at all pairs of them.
func fewTexts() []string {
	texts := append(namedTexts(), allTexts("a\xff", 3)...)
	for _, pair := range meetingTexts() {
		texts = append(texts, pair[0], pair[1])
	}
	return texts
}

func noBytes() []int {
	return []int{-1, -2, -256, 256, 257, 1 << 32, math.MinInt, math.MaxInt}
}

func noPrints() []int {
	return []int{-1, -2, -prime, prime, prime + 1, 2 * prime, 1 << 40, math.MinInt, math.MinInt + 1, math.MaxInt}
}

func checkPrints(t *testing.T, s string, k int) {
	t.Helper()
	prints := impl.PrintsOf(s, k)
	if len(prints) != len(s)-k+1 {
		t.Fatalf("%q has %d pieces of %d bytes", s, len(prints), k)
	}
	seen := map[string]int{}
	for at, n := range prints {
		piece := s[at : at+k]
		if n != impl.PrintOf(piece) {
			t.Fatalf("%q: %d at %d, not %d, of %q", s, n, at, impl.PrintOf(piece), piece)
		}
		if other, ok := seen[piece]; ok && other != n {
			t.Fatalf("%q: %q has %d and %d", s, piece, other, n)
		}
		seen[piece] = n
	}
}

func checkNoPrints(t *testing.T, s string) {
	t.Helper()
	for _, k := range []int{0, -1, -len(s), -len(s) - 1, math.MinInt, len(s) + 1, len(s) + 2, 2*len(s) + 1, math.MaxInt - 1, math.MaxInt} {
		if prints := impl.PrintsOf(s, k); len(prints) != 0 {
			t.Fatalf("%q has pieces of %d bytes: %v", s, k, prints)
		}
	}
}

func TestP4PrintsThatAreRolledOn(t *testing.T) {
	for _, s := range printTexts() {
		for k := 1; k <= len(s) && k <= 40; k++ {
			checkPrints(t, s, k)
		}
		for k := max(len(s)-3, 1); k <= len(s); k++ {
			checkPrints(t, s, k)
		}
	}
}

func TestP226PrintsThatAreRolledOnUpTo1000(t *testing.T) {
	for _, s := range longTexts() {
		for _, k := range []int{1, 2, 3, 4, 5, 8, 16, 17, len(s) / 2, len(s) - 1, len(s)} {
			checkPrints(t, s, k)
		}
		checkNoPrints(t, s)
	}
}

func TestP4NoPrints(t *testing.T) {
	for _, s := range printTexts() {
		checkNoPrints(t, s)
	}
}

func TestP4PrintsOfSomeTexts(t *testing.T) {
	cases := []struct {
		s      string
		k      int
		prints []int
	}{
		{"", 0, nil}, {"", 1, nil}, {"", -1, nil}, {"a", 0, nil}, {"a", 2, nil}, {"abab", 5, nil}, {"abab", math.MinInt, nil},
		{"a", 1, []int{98}},
		{"\x00\xff", 1, []int{1, 256}},
		{"\x00\xff", 2, []int{513}},
		{"abab", 2, []int{25285, 25541, 25285}},
		{"abab", 1, []int{98, 99, 98, 99}},
		{nullText + "\x0e", 3, []int{0, 381885}},
		{"aAapeq", 6, []int{printByBig("aAapeq")}},
	}
	for _, c := range cases {
		if prints := impl.PrintsOf(c.s, c.k); !slices.Equal(prints, c.prints) {
			t.Fatalf("%q, %d: %v, not %v", c.s, c.k, prints, c.prints)
		}
	}
}

// A text is so long here that its fingerprints are told in time only if each is told by the one ahead.
func TestP4PrintsOfALongTextAreRolledOn(t *testing.T) {
	d := &drawn{state: 5}
	s := drawnText(d, 1<<20, 1)
	k := 1 << 19
	prints := impl.PrintsOf(s, k)
	if len(prints) != len(s)-k+1 {
		t.Fatal(len(prints))
	}
	for at := 0; at < len(prints); at += 1 << 16 {
		if prints[at] != impl.PrintOf(s[at:at+k]) {
			t.Fatal(at, prints[at])
		}
	}
}

func TestP4EqualPiecesOfDifferentTexts(t *testing.T) {
	piece := "sea of \xff stones"
	want := impl.PrintOf(piece)
	for _, ahead := range namedTexts() {
		for _, behind := range namedTexts() {
			if got := impl.PrintsOf(ahead+piece+behind, len(piece))[len(ahead)]; got != want {
				t.Fatalf("%q, %q: %d, not %d", ahead, behind, got, want)
			}
		}
	}
}

func checkPrintOf(t *testing.T, s string) {
	t.Helper()
	n := impl.PrintOf(s)
	if n < 0 || n >= prime || n != printByBig(s) {
		t.Fatalf("%q: %d, not %d", s, n, printByBig(s))
	}
	for b := 0; b < 256; b += 15 {
		more := s + string([]byte{byte(b)})
		if got := impl.PrintOf(more); got != (n*base+b+1)%prime {
			t.Fatalf("%q: %d behind %d", more, got, n)
		}
	}
}

func TestP96PrintsAreBelowThePrime(t *testing.T) {
	for _, s := range append(printTexts(), longTexts()...) {
		checkPrintOf(t, s)
	}
	for b := range 256 {
		for c := range 256 {
			s := string([]byte{byte(b), byte(c)})
			if got := impl.PrintOf(s); got != (b+1)*base+c+1 {
				t.Fatalf("%q: %d", s, got)
			}
		}
	}
}

func TestP96PrintOfSomeTexts(t *testing.T) {
	cases := []struct {
		s     string
		print int
	}{
		{"", 0}, {"\x00", 1}, {"a", 98}, {"\x7f", 128}, {"\x80", 129}, {"\xff", 256}, {"ab", 25285}, {"\x00\x00", 258},
		{"\xff\xff", 66048}, {nullText, 0}, {"\x0e\x23\x0e", prime - 1}, {nullText + nullText, 0}, {nullText + "a", 98},
	}
	for _, c := range cases {
		if n := impl.PrintOf(c.s); n != c.print {
			t.Fatalf("%q: %d, not %d", c.s, n, c.print)
		}
	}
}

func TestP96TextsWhosePrintsMeet(t *testing.T) {
	for _, pair := range meetingTexts() {
		if pair[0] == pair[1] || impl.PrintOf(pair[0]) != impl.PrintOf(pair[1]) {
			t.Fatalf("%q: %d, %d", pair, impl.PrintOf(pair[0]), impl.PrintOf(pair[1]))
		}
	}
}

func TestP97PowersAreMultipliedByAdding(t *testing.T) {
	numbers := []int{0, 1, 2, 3, 4, 5, 6, 7, 8, 15, 16, 17, 100, 255, 256, 257, 999, 1000, prime - 2, prime - 1, prime, 1 << 31, 1 << 40, 1<<61 + 12345, math.MaxInt / 2}
	for _, a := range numbers {
		for _, b := range numbers {
			want := impl.PrintPower(a) * impl.PrintPower(b) % prime
			if got := impl.PrintPower(a + b); got != want {
				t.Fatalf("%d and %d: %d, not %d", a, b, got, want)
			}
		}
	}
}

func TestP97PowersOneByOne(t *testing.T) {
	power := 1
	for n := range 3000 {
		if got := impl.PrintPower(n); got != power {
			t.Fatalf("%d: %d, not %d", n, got, power)
		}
		power = power * base % prime
	}
}

func TestP97PowersOfSomeNumbers(t *testing.T) {
	cases := []struct {
		n     int
		power int
	}{
		{0, 1}, {1, 257}, {2, 66049}, {3, 974545}, {prime - 1, 1}, {prime, 257},
		{math.MaxInt, powerByBig(math.MaxInt)}, {math.MaxInt - 1, powerByBig(math.MaxInt - 1)}, {1 << 62, powerByBig(1 << 62)},
		{-1, 0}, {-2, 0}, {-prime, 0}, {-prime + 1, 0}, {math.MinInt, 0}, {math.MinInt + 1, 0},
	}
	for _, c := range cases {
		if power := impl.PrintPower(c.n); power != c.power {
			t.Fatalf("%d: %d, not %d", c.n, power, c.power)
		}
	}
}

func checkRoll(t *testing.T, s string, come byte) {
	t.Helper()
	rolled := s[1:] + string([]byte{come})
	got := impl.RollPrint(impl.PrintOf(s), len(s), int(s[0]), int(come))
	if got != impl.PrintOf(rolled) || got != printByBig(rolled) {
		t.Fatalf("%q becomes %q: %d, not %d", s, rolled, got, impl.PrintOf(rolled))
	}
}

func TestP98RolledWithoutTheFirstAndWithOneMore(t *testing.T) {
	for _, s := range append(printTexts(), longTexts()...) {
		if s == "" {
			continue
		}
		for _, come := range []byte{0, 'a', 127, 128, 255, s[0]} {
			checkRoll(t, s, come)
		}
	}
	for b := range 256 {
		for c := range 256 {
			checkRoll(t, string([]byte{byte(b)}), byte(c))
			checkRoll(t, string([]byte{byte(b), byte(c), byte(b)}), byte(c))
		}
	}
}

func TestP98RollingGoesThroughAllPieces(t *testing.T) {
	for _, s := range longTexts() {
		for _, k := range []int{1, 2, 16, len(s) / 2} {
			prints := impl.PrintsOf(s, k)
			n := impl.PrintOf(s[:k])
			for at := 1; at < len(prints); at++ {
				n = impl.RollPrint(n, k, int(s[at-1]), int(s[at+k-1]))
				if n != prints[at] {
					t.Fatalf("%q, %d: %d at %d, not %d", s, k, n, at, prints[at])
				}
			}
		}
	}
}

func TestP98RollOfAllValidNumbers(t *testing.T) {
	for _, n := range []int{0, 1, 2, 255, 256, 257, 500000, prime - 2, prime - 1} {
		for _, k := range []int{1, 2, 3, 1000, prime - 1, prime, 1 << 40, math.MaxInt - 1, math.MaxInt} {
			for _, b := range []int{0, 1, 127, 128, 254, 255} {
				for _, c := range []int{0, 1, 127, 128, 254, 255} {
					if got := impl.RollPrint(n, k, b, c); got != rollByBig(n, k, b, c) {
						t.Fatalf("%d, %d, %d, %d: %d, not %d", n, k, b, c, got, rollByBig(n, k, b, c))
					}
				}
			}
		}
	}
}

func checkNoRoll(t *testing.T, n int, k int, gone int, come int) {
	t.Helper()
	if got := impl.RollPrint(n, k, gone, come); got != -1 {
		t.Fatalf("%d, %d, %d, %d: %d", n, k, gone, come, got)
	}
}

func TestP98RollOfOtherNumbers(t *testing.T) {
	for _, n := range noPrints() {
		checkNoRoll(t, n, 1, 97, 98)
		checkNoRoll(t, n, math.MaxInt, 0, 255)
	}
	for _, k := range []int{0, -1, -2, -prime, math.MinInt + 1, math.MinInt} {
		checkNoRoll(t, 98, k, 97, 98)
		checkNoRoll(t, 0, k, 0, 0)
	}
	for _, b := range noBytes() {
		checkNoRoll(t, 98, 1, b, 98)
		checkNoRoll(t, 98, 1, 97, b)
		checkNoRoll(t, 98, 1, b, b)
		checkNoRoll(t, prime, 0, b, b)
	}
	checkNoRoll(t, math.MinInt, math.MinInt, math.MinInt, math.MinInt)
	checkNoRoll(t, math.MaxInt, math.MaxInt, math.MaxInt, math.MaxInt)
}

func checkJoin(t *testing.T, a string, b string) {
	t.Helper()
	got := impl.JoinPrint(impl.PrintOf(a), impl.PrintOf(b), len(b))
	if want := impl.PrintOf(a + b); got != want {
		t.Fatalf("%q and %q: %d, not %d", a, b, got, want)
	}
}

func TestP99PrintOfTwoTexts(t *testing.T) {
	texts := append(fewTexts(), longTexts()...)
	for _, a := range texts {
		for _, b := range texts {
			checkJoin(t, a, b)
		}
	}
	for _, s := range append(namedTexts(), longTexts()...) {
		for at := 0; at <= len(s); at += 1 + len(s)/20 {
			checkJoin(t, s[:at], s[at:])
		}
	}
}

func TestP99JoinOfAllValidNumbers(t *testing.T) {
	prints := []int{0, 1, 255, 256, 257, 500001, prime - 2, prime - 1}
	for _, a := range prints {
		for _, b := range prints {
			for _, bytes := range []int{0, 1, 2, 3, 1000, prime - 2, prime - 1, 1 << 40, math.MaxInt - 1, math.MaxInt} {
				if got := impl.JoinPrint(a, b, bytes); got != joinByBig(a, b, bytes) {
					t.Fatalf("%d, %d, %d: %d, not %d", a, b, bytes, got, joinByBig(a, b, bytes))
				}
			}
		}
	}
}

func checkNoJoin(t *testing.T, a int, b int, bytes int) {
	t.Helper()
	if got := impl.JoinPrint(a, b, bytes); got != -1 {
		t.Fatalf("%d, %d, %d: %d", a, b, bytes, got)
	}
}

func TestP99JoinOfOtherNumbers(t *testing.T) {
	for _, n := range noPrints() {
		for _, bytes := range []int{0, 1, 1000, math.MaxInt} {
			checkNoJoin(t, n, 98, bytes)
			checkNoJoin(t, 98, n, bytes)
			checkNoJoin(t, n, n, bytes)
		}
	}
	for _, bytes := range []int{-1, -2, -prime, math.MinInt + 1, math.MinInt} {
		checkNoJoin(t, 98, 99, bytes)
		checkNoJoin(t, 0, 0, bytes)
		checkNoJoin(t, prime-1, prime-1, bytes)
		checkNoJoin(t, -1, prime, bytes)
	}
}

// placesOneByOne looks at all places by themselves, without fingerprints.
func placesOneByOne(s string, piece string) []int {
	var places []int
	for at := range len(s) {
		if piece != "" && strings.HasPrefix(s[at:], piece) {
			places = append(places, at)
		}
	}
	return places
}

func checkFind(t *testing.T, s string, piece string) {
	t.Helper()
	got, want := impl.FindPrint(s, piece), placesOneByOne(s, piece)
	if !slices.Equal(got, want) {
		t.Fatalf("%q in %q: %v, not %v", piece, s, got, want)
	}
}

func TestP100AllPlacesAndNoOthers(t *testing.T) {
	texts := append(namedTexts(), allTexts("ab", 7)...)
	pieces := append(allTexts("ab", 4), " ", "a ", "\x00", "\xff", "\x80\x81", "the", allBytes())
	for _, s := range texts {
		for _, piece := range append(pieces, s, s+"a", "a"+s, s+s) {
			checkFind(t, s, piece)
		}
	}
	few := fewTexts()
	for _, s := range few {
		for _, piece := range few {
			checkFind(t, s, piece)
			checkFind(t, s+piece+s, piece)
			checkFind(t, piece+s+piece, piece)
		}
	}
}

func TestP100PlacesInLongTexts(t *testing.T) {
	for _, s := range longTexts() {
		for _, n := range []int{1, 2, 3, 6, 17, len(s) / 2, len(s) - 1, len(s)} {
			for at := 0; at+n <= len(s); at += 1 + len(s)/9 {
				checkFind(t, s, s[at:at+n])
			}
		}
		checkFind(t, s, s+"a")
		checkFind(t, s, "")
	}
}

func TestP100PlacesOfSomePieces(t *testing.T) {
	cases := []struct {
		s      string
		piece  string
		places []int
	}{
		{"", "", nil}, {"", "a", nil}, {"a", "", nil}, {"abab", "", nil}, {"\x00", "", nil}, {nullText, "", nil},
		{"a", "a", []int{0}}, {"a", "aa", nil}, {"ab", "abc", nil}, {"abab", "ab", []int{0, 2}}, {"abab", "ba", []int{1}},
		{"aaaa", "aa", []int{0, 1, 2}}, {"aaaa", "aaaa", []int{0}}, {"aaaa", "aaaaa", nil}, {"abab", "c", nil}, {"aB", "ab", nil},
		{"\xff\x80\xff\x80", "\xff\x80", []int{0, 2}}, {"\x00\x00\x00", "\x00", []int{0, 1, 2}},
	}
	for _, c := range cases {
		if places := impl.FindPrint(c.s, c.piece); !slices.Equal(places, c.places) {
			t.Fatalf("%q in %q: %v", c.piece, c.s, places)
		}
	}
}

func TestP100PrintsThatMeetAreNoPlaces(t *testing.T) {
	for _, pair := range meetingTexts() {
		a, b := pair[0], pair[1]
		for _, s := range []string{a, b, a + b, b + a, a + " " + b + " " + a, strings.Repeat(a+b, 5)} {
			checkFind(t, s, a)
			checkFind(t, s, b)
		}
	}
	if places := impl.FindPrint("aAapeqaAa", "aAa"); !slices.Equal(places, []int{0, 6}) {
		t.Fatal(places)
	}
	if places := impl.FindPrint("peq", "aAa"); len(places) != 0 {
		t.Fatal(places)
	}
}

// Texts are gone through here until fingerprints of different ones meet, so that the pairs are not those alone that are written above.
func TestP100PrintsThatAreFoundToMeet(t *testing.T) {
	seen := map[int]string{}
	met := 0
	for _, s := range allTexts("abcdeABCDE", 4) {
		if len(s) != 4 {
			continue
		}
		n := impl.PrintOf(s)
		if other, ok := seen[n]; ok {
			met++
			checkFind(t, s+other+s, s)
			checkFind(t, s+other+s, other)
		}
		seen[n] = s
	}
	if met < 5 {
		t.Fatalf("only %d fingerprints meet", met)
	}
}

func TestPrintListsOwnTheirMemory(t *testing.T) {
	for _, s := range []string{"a", "abab", "aaaa", "the sea of \xff the sea"} {
		for _, k := range []int{1, 2, len(s)} {
			checkListIsOwn(t, func() []int { return impl.PrintsOf(s, k) }, -7)
		}
		checkListIsOwn(t, func() []int { return impl.FindPrint(s, s[:1]) }, -7)
	}
}

func TestPrintsWriteToNoArgument(t *testing.T) {
	for _, s := range printTexts() {
		// The argument is part of a longer text, so that writing beside it is seen too.
		all := strings.Clone("ahead" + s + "behind")
		kept := strings.Clone(all)
		argument := all[5 : 5+len(s)]
		impl.PrintOf(argument)
		impl.PrintsOf(argument, 1)
		impl.PrintsOf(argument, len(s))
		impl.FindPrint(argument, "a")
		impl.FindPrint("the sea", argument)
		impl.FindPrint(argument, argument)
		if all != kept {
			t.Fatalf("%q became %q", kept, all)
		}
	}
}
