package tests

import (
	"cmp"
	"fmt"
	"index/suffixarray"
	"math"
	"slices"
	"strings"
	"testing"

	"loop.example/copiedtexts/impl"
)

var (
	_ func(string) []impl.State      = impl.MachineOf
	_ func([]impl.State, string) int = impl.Follow
	_ func(string, string) bool      = impl.HasPiece
	_ func(string) int               = impl.CountPieces
	_ func(string, string) []int     = impl.LongestEnds
	_ func(string, string) int       = impl.HowOften
	_ struct{ Sign, To int }         = impl.Edge{}
	_ struct {
		Long, Link int
		Next       []impl.Edge
	} = impl.State{}
)

// edgeRow returns edges of two numbers each.
func edgeRow(numbers ...int) []impl.Edge {
	var next []impl.Edge
	for i := 0; i < len(numbers); i += 2 {
		next = append(next, impl.Edge{Sign: numbers[i], To: numbers[i+1]})
	}
	return next
}

// machineText returns states as a text: of each one how many bytes it has, its link, and its edges.
func machineText(list []impl.State) string {
	var parts []string
	for _, state := range list {
		part := fmt.Sprintf("%d %d", state.Long, state.Link)
		for _, edge := range state.Next {
			part += fmt.Sprintf(" %c%d", rune(edge.Sign), edge.To)
		}
		parts = append(parts, part)
	}
	return strings.Join(parts, "; ")
}

func sameState(x impl.State, y impl.State) bool {
	return x.Long == y.Long && x.Link == y.Link && slices.Equal(x.Next, y.Next)
}

// copiedStates returns states that share no memory with those that they are like.
func copiedStates(list []impl.State) []impl.State {
	copied := slices.Clone(list)
	for i := range copied {
		copied[i].Next = slices.Clone(copied[i].Next)
	}
	return copied
}

// splitTexts returns texts of one byte again and again, of two bytes in turn, texts in which one state is split more than once, and such in which a state that was split off is split again.
func splitTexts() []string {
	return []string{
		strings.Repeat("a", 20), strings.Repeat("\xff", 20), strings.Repeat("\x00", 20), strings.Repeat("ab", 10), strings.Repeat("ba", 10) + "b", strings.Repeat("\xff\x00", 10), strings.Repeat("aab", 6),
		"abb", "abbb", "wxabybzab", "wxabyabzb", "xabyabzb", "vwxabybzabuxab", "vwxabyxabzabub", "abcdXdYcdZbcd", "abcdXbcdYcdZd", "abbbc", "abbbbbbbbc", "abcbabcab", "abaababaabaab", "aabbabab",
		"\xff\x80\x80", "\x00\x80\xff\x80\x00\xff", "x\x80\xffy\x80\xffz\xff", "the sea, the old sea",
	}
}

// machineTexts returns texts so short that all their pieces can be tried.
func machineTexts() []string {
	return slices.Concat(allTexts("ab", 8), allTexts("abc", 5), allTexts("\x00\x80\xff", 4), splitTexts())
}

// fibonacciText returns a text of n bytes with very many pieces that stand there twice.
func fibonacciText(n int) string {
	a, b := "a", "ab"
	for len(b) < n {
		a, b = b, b+a
	}
	return b[:n]
}

// longMachineTexts returns texts of up to 1000 bytes: with as many states or edges as there can be, or as few, and drawn ones.
func longMachineTexts() []string {
	d := &drawn{state: 41}
	same := strings.Repeat("b", 1000)
	texts := []string{same, same[:999] + "a", "a" + same[:999], "a" + same[:998] + "c", strings.Repeat("\xff\x00", 500), strings.Repeat("abc", 333), fibonacciText(1000), allBytes() + allBytes() + "\x00\xff"}
	for _, alphabet := range []string{"ab", "\x00\xff", "abcd", allBytes()} {
		texts = append(texts, textOfBytes(d, alphabet, 1000))
	}
	copying, other := copyingTexts(d, 2)
	return append(texts, copying, copying[:400]+other[:300]+copying[100:400], textOfPieces(d, 1000), drawnText(d, 1000, 9))
}

// allPieces returns the different pieces of a text, the empty one too.
func allPieces(s string) []string {
	pieces := []string{""}
	seen := map[string]bool{}
	for from := range len(s) {
		for to := from + 1; to <= len(s); to++ {
			if piece := s[from:to]; !seen[piece] {
				seen[piece] = true
				pieces = append(pieces, piece)
			}
		}
	}
	return pieces
}

// longestPieces returns the longest piece that leads to each state, in the order in which the states are made: ahead of such a piece there stand different bytes, or somewhere none.
func longestPieces(s string) []string {
	const differs = -1
	list := []string{""}
	aheadOf := map[string]int{"": differs}
	for to := 1; to <= len(s); to++ {
		for from := 0; from <= to; from++ {
			piece, ahead := s[from:to], differs
			if from > 0 {
				ahead = int(s[from-1])
			}
			old, stood := aheadOf[piece]
			if stood && (old == differs || old == ahead) {
				continue
			}
			if stood {
				ahead = differs
			}
			aheadOf[piece] = ahead
			if ahead == differs {
				list = append(list, piece)
			}
		}
	}
	return list
}

// machineByRules makes the states of the pieces themselves: to a state there lead its longest piece and the ends of this, up to one that leads to a state of its own.
func machineByRules(s string) []impl.State {
	pieces := longestPieces(s)
	numbers := map[string]int{}
	for i, piece := range pieces {
		numbers[piece] = i
	}
	list := make([]impl.State, len(pieces))
	list[0].Link = -1
	for i, piece := range pieces {
		list[i].Long = len(piece)
		for from := range len(piece) {
			if number, ok := numbers[piece[from:]]; ok && from > 0 {
				list[i].Link = number
				break
			}
			last := len(piece) - 1
			if number, ok := numbers[piece[from:last]]; ok {
				list[number].Next = append(list[number].Next, impl.Edge{Sign: int(piece[last]), To: i})
			}
		}
	}
	for i := range list {
		slices.SortFunc(list[i].Next, func(x impl.Edge, y impl.Edge) int { return cmp.Compare(x.Sign, y.Sign) })
	}
	return list
}

func checkMachine(t *testing.T, s string) {
	t.Helper()
	list, want := impl.MachineOf(s), machineByRules(s)
	for i := range min(len(list), len(want)) {
		if !sameState(list[i], want[i]) {
			t.Fatalf("%q: state %d is %v, not %v", s, i, list[i], want[i])
		}
	}
	if len(list) != len(want) {
		t.Fatalf("%q: %d states, not %d", s, len(list), len(want))
	}
}

func countEdges(list []impl.State) int {
	count := 0
	for _, state := range list {
		count += len(state.Next)
	}
	return count
}

// checkIsSmall looks at all that a machine has, and where it leads.
func checkIsSmall(t *testing.T, s string) {
	t.Helper()
	list := impl.MachineOf(s)
	if n := len(s); n >= 3 && (len(list) > 2*n-1 || countEdges(list) > 3*n-4) {
		t.Fatalf("%q: %d states and %d edges for %d bytes", s, len(list), countEdges(list), n)
	}
	if len(list) < 1 || list[0].Long != 0 || list[0].Link != -1 {
		t.Fatalf("%q has no first state: %v", s, list)
	}
	for i, state := range list {
		if i > 0 && (state.Link < 0 || state.Link >= len(list) || list[state.Link].Long >= state.Long) {
			t.Fatalf("%q: the link of state %d in %v", s, i, list)
		}
		for at, edge := range state.Next {
			if edge.To < 0 || edge.To >= len(list) || list[edge.To].Long <= state.Long {
				t.Fatalf("%q: edge %d of state %d in %v", s, at, i, list)
			}
			if edge.Sign < 0 || edge.Sign > 255 || at > 0 && state.Next[at-1].Sign >= edge.Sign {
				t.Fatalf("%q: the edges of state %d in %v", s, i, list)
			}
		}
	}
}

func TestP16AMachineIsSmall(t *testing.T) {
	for _, s := range slices.Concat(machineTexts(), namedTexts()) {
		checkIsSmall(t, s)
	}
}

func TestP237AMachineIsSmallUpTo1000(t *testing.T) {
	for _, s := range slices.Concat(longMachineTexts(), longTexts()) {
		for _, n := range []int{3, 4, 57, 999, 1000} {
			checkIsSmall(t, s[:min(n, len(s))])
		}
	}
}

func TestP16HowManyStatesAndEdgesThereAre(t *testing.T) {
	cases := []struct {
		s      string
		states int
		edges  int
	}{
		{"", 1, 0}, {"a", 2, 1}, {"\x00", 2, 1}, {"aa", 3, 2}, {"ab", 3, 3}, {"\xff\x00", 3, 3}, {"aaa", 4, 3}, {"abb", 5, 5}, {"abc", 4, 5}, {"aba", 4, 4}, {"aab", 4, 5}, {"abbc", 6, 8},
	}
	for _, c := range cases {
		if list := impl.MachineOf(c.s); len(list) != c.states || countEdges(list) != c.edges {
			t.Fatalf("%q: %d states and %d edges: %v", c.s, len(list), countEdges(list), list)
		}
	}
	// These texts have as many states, and as many edges, as there can be, or as few.
	for n := 3; n <= 1000; n += 1 + n/5 {
		same := strings.Repeat("b", n)
		if list := impl.MachineOf("a" + same[1:]); len(list) != 2*n-1 {
			t.Fatal(n, len(list))
		}
		if list := impl.MachineOf("a" + same[2:] + "c"); countEdges(list) != 3*n-4 {
			t.Fatal(n, countEdges(list))
		}
		if list := impl.MachineOf(same); len(list) != n+1 || countEdges(list) != n {
			t.Fatal(n, len(list), countEdges(list))
		}
	}
}

// checkHasPiece asks for one piece by all functions that tell whether it is there.
func checkHasPiece(t *testing.T, s string, piece string) {
	t.Helper()
	if want := strings.Contains(s, piece); impl.HasPiece(s, piece) != want || (impl.Follow(impl.MachineOf(s), piece) >= 0) != want {
		t.Fatalf("%q in %q: %v", piece, s, impl.HasPiece(s, piece))
	}
}

func TestP17TheMachineFollowsThePiecesAndNothingElse(t *testing.T) {
	pieces := allTexts("abc", 6)
	for _, s := range slices.Concat(allTexts("ab", 5), []string{"abcab", "cabbac", "aaaaaa", "bababa"}) {
		for _, piece := range pieces {
			checkHasPiece(t, s, piece)
		}
	}
	for _, s := range allTexts("\x00\x80\xff", 3) {
		for _, piece := range allTexts("\x00\x7f\x80\xff", 4) {
			checkHasPiece(t, s, piece)
		}
	}
	for _, s := range slices.Concat(splitTexts(), fewTexts()) {
		for _, piece := range slices.Concat(splitTexts(), fewTexts(), []string{"", s, s + "a", s + s, s + "\x00", "\x00" + s}) {
			checkHasPiece(t, s, piece)
		}
	}
}

// otherAt returns a text with another byte at a place.
func otherAt(s string, at int, other byte) string {
	list := []byte(s)
	list[at] = other
	return string(list)
}

// checkFollowsPieces follows pieces of all lengths, and such in which one byte is another one.
func checkFollowsPieces(t *testing.T, d *drawn, s string) {
	t.Helper()
	list := impl.MachineOf(s)
	var pieces []string
	for range 2000 {
		from := d.below(len(s))
		to := from + 1 + d.below(min(len(s)-from, 1+d.below(len(s))))
		piece := s[from:to]
		pieces = append(pieces, piece, piece+s[d.below(len(s)):][:1], otherAt(piece, d.below(len(piece)), s[d.below(len(s))]), otherAt(piece, len(piece)-1, byte(d.below(256))))
	}
	for _, piece := range append(pieces, "", s, s+s[:1], s[:1]+s, s+s) {
		if at := impl.Follow(list, piece); (at >= 0) != strings.Contains(s, piece) {
			t.Fatalf("%q in %q: %d", piece, s, at)
		}
	}
	for _, piece := range append(pieces[:80], "", s, s+s[:1], s[:1]+s, s+s) {
		checkHasPiece(t, s, piece)
	}
}

func TestP238TheMachineFollowsThePiecesUpTo1000(t *testing.T) {
	d := &drawn{state: 42}
	for _, s := range longMachineTexts() {
		checkFollowsPieces(t, d, s)
	}
}

func TestP17WhetherSomeTextsHaveAPiece(t *testing.T) {
	cases := []struct {
		s     string
		piece string
		has   bool
	}{
		{"", "", true}, {"", "a", false}, {"", "\x00", false}, {"a", "", true}, {"a", "a", true}, {"a", "A", false}, {"a", "aa", false}, {"ab", "ba", false}, {"ab", "ab", true},
		{"aaa", "aaa", true}, {"aaa", "aaaa", false}, {"abab", "bab", true}, {"abab", "abb", false}, {"\x00", "\x00", true}, {"\x00", "\x00\x00", false}, {"\x00a", "a", true},
		{"\xff\x80", "\x80", true}, {"\xff\x80", "\x7f", false}, {"\xc3\x84", "\x84", true}, {"\xc3\x84", "\xc3\xa4", false}, {"the sea", "sea", true}, {"the sea", "see", false},
	}
	for _, c := range cases {
		if has := impl.HasPiece(c.s, c.piece); has != c.has {
			t.Fatalf("%q in %q: %v", c.piece, c.s, has)
		}
	}
}

// endsText returns the places behind all places of a piece, also of the empty one, as a text.
func endsText(s string, piece string) string {
	ends := ""
	for from := 0; from+len(piece) <= len(s); from++ {
		if strings.HasPrefix(s[from:], piece) {
			ends += fmt.Sprint(from+len(piece), " ")
		}
	}
	return ends
}

// checkSameEnds looks at all pairs of pieces, and at all that can be put behind them.
func checkSameEnds(t *testing.T, s string) {
	t.Helper()
	list, pieces := impl.MachineOf(s), allPieces(s)
	ends := map[string]string{}
	for _, piece := range pieces {
		ends[piece] = endsText(s, piece)
	}
	for _, x := range pieces {
		for _, y := range pieces {
			same := impl.Follow(list, x) == impl.Follow(list, y)
			if same != (ends[x] == ends[y]) {
				t.Fatalf("%q: %q and %q lead to %d and %d", s, x, y, impl.Follow(list, x), impl.Follow(list, y))
			}
			// What is no piece of the text gives none behind any piece.
			gives := true
			for _, behind := range pieces {
				gives = gives && ends[x+behind] == ends[y+behind]
			}
			if same != gives {
				t.Fatalf("%q: %q and %q go on at the same places: %v", s, x, y, gives)
			}
		}
	}
}

func TestP18PiecesThatLeadToOneStateStandAtTheSameEnds(t *testing.T) {
	for _, s := range slices.Concat(allTexts("ab", 6), allTexts("\x00\x80\xff", 4), []string{"abbbc", "xabyabzb", "wxabybzab", "abcabc", "aaaaaaaa", "abababa", "\xff\x00\xff\x00"}) {
		checkSameEnds(t, s)
	}
}

func TestP18TheStatesAreThoseOfAllPieces(t *testing.T) {
	for _, s := range slices.Concat(machineTexts(), namedTexts(), allTexts("ab", 11)) {
		checkMachine(t, s)
	}
	d := &drawn{state: 43}
	for range 2000 {
		checkMachine(t, textOfBytes(d, "abcd"[:2+d.below(3)], d.below(40)))
		checkMachine(t, textOfBytes(d, "\x00\x01\x7f\x80\xfe\xff", d.below(30)))
	}
}

// checkStatesOfPieces looks at whether drawn pieces lead to the same state exactly if they end at the same places.
func checkStatesOfPieces(t *testing.T, d *drawn, s string) {
	t.Helper()
	list := impl.MachineOf(s)
	stateOf := map[string]int{}
	endsOf := map[int]string{}
	for range 150 {
		to := 1 + d.below(len(s))
		for _, from := range []int{0, d.below(to), max(to-1-d.below(12), 0)} {
			piece := s[from:to]
			at, ends := impl.Follow(list, piece), endsText(s, piece)
			if other, ok := stateOf[ends]; ok && other != at {
				t.Fatalf("%q: %q leads to %d, not to %d", s, piece, at, other)
			}
			if other, ok := endsOf[at]; ok && other != ends {
				t.Fatalf("%q: %q leads to %d, and so does what ends elsewhere", s, piece, at)
			}
			stateOf[ends], endsOf[at] = at, ends
		}
	}
}

func TestP239PiecesThatLeadToOneStateUpTo1000(t *testing.T) {
	d := &drawn{state: 44}
	for _, s := range longMachineTexts() {
		checkStatesOfPieces(t, d, s)
	}
}

func TestP239TheStatesAreThoseOfAllPiecesUpTo1000(t *testing.T) {
	for _, s := range longMachineTexts() {
		checkMachine(t, s)
	}
}

func TestP18MachinesOfSomeTexts(t *testing.T) {
	cases := []struct {
		s    string
		list string
	}{
		{"", "0 -1"}, {"a", "0 -1 a1; 1 0"}, {"\x00", "0 -1 \x001; 1 0"}, {"\xff", "0 -1 \u00ff1; 1 0"},
		{"aa", "0 -1 a1; 1 0 a2; 2 1"}, {"ab", "0 -1 a1 b2; 1 0 b2; 2 0"}, {"ba", "0 -1 a2 b1; 1 0 a2; 2 0"}, {"\xff\x00", "0 -1 \x002 \u00ff1; 1 0 \x002; 2 0"},
		{"aaaa", "0 -1 a1; 1 0 a2; 2 1 a3; 3 2 a4; 4 3"}, {"abab", "0 -1 a1 b2; 1 0 b2; 2 0 a3; 3 1 b4; 4 2"},
		// A state of one piece, "b", is split off the one of "ab".
		{"abb", "0 -1 a1 b4; 1 0 b2; 2 4 b3; 3 4; 1 0 b3"}, {"aab", "0 -1 a1 b3; 1 0 a2 b3; 2 1 b3; 3 0"},
		{"abbb", "0 -1 a1 b4; 1 0 b2; 2 4 b3; 3 6 b5; 1 0 b6; 4 6; 2 4 b5"},
		// The state of "xab" is split, and the one that is split off it, of "ab" and "b", once more.
		{"xabyabzb", "0 -1 a6 b11 x1 y4 z9; 1 0 a2; 2 6 b3; 3 8 y4; 4 0 a5; 5 6 b7; 1 0 b8; 6 8 z9; 2 11 y4 z9; 7 0 b10; 8 11; 1 0 y4 z9"},
		// The state of "xab" is split twice: first "b" is split off, and then "ab".
		{"xabybzab", "0 -1 a9 b6 x1 y4 z7; 1 0 a2; 2 9 b3; 3 11 y4; 4 0 b5; 5 6 z7; 1 0 y4 z7; 6 0 a8; 7 9 b10; 1 0 b11; 8 11; 2 6 y4"},
	}
	for _, c := range cases {
		if list := impl.MachineOf(c.s); machineText(list) != c.list {
			t.Errorf("%q: %q, not %q", c.s, machineText(list), c.list)
		}
	}
}

// checkLongestEnds tries for each byte as many bytes as are told, and one more.
func checkLongestEnds(t *testing.T, s string, text string) {
	t.Helper()
	longs := impl.LongestEnds(s, text)
	if len(longs) != len(text) {
		t.Fatalf("%q in %q: %v", text, s, longs)
	}
	for i, long := range longs {
		to := i + 1
		if long < 0 || long > to || !strings.Contains(s, text[to-long:to]) {
			t.Fatalf("%q in %q: %d at %d", text, s, long, i)
		}
		if long < to && strings.Contains(s, text[to-long-1:to]) {
			t.Fatalf("%q in %q: %d at %d, though one more is a piece", text, s, long, i)
		}
	}
}

func TestP19TheLongestPiecesThatEndAtEachByte(t *testing.T) {
	for _, pair := range slices.Concat(shortPairs(), textPairs(splitTexts()), textPairs(fewTexts())) {
		checkLongestEnds(t, pair[0], pair[1])
	}
	d := &drawn{state: 45}
	for range 3000 {
		alphabet := "abcd"[:2+d.below(3)]
		checkLongestEnds(t, textOfBytes(d, alphabet, d.below(40)), textOfBytes(d, alphabet, d.below(60)))
	}
}

func TestP240TheLongestPiecesThatEndAtEachByteUpTo1000(t *testing.T) {
	for _, pair := range slices.Concat(longPairs(), longMeetingPairs()) {
		checkLongestEnds(t, pair[0], pair[1])
		checkLongestEnds(t, pair[1], pair[0])
	}
	texts := longMachineTexts()
	for i, s := range texts {
		checkLongestEnds(t, s, texts[(i+1)%len(texts)])
		checkLongestEnds(t, s, s)
	}
}

func TestP19LongestEndsOfSomeTexts(t *testing.T) {
	cases := []struct {
		s     string
		t     string
		longs []int
	}{
		{"", "", nil}, {"a", "", nil}, {"", "a", []int{0}}, {"", "ab\x00", []int{0, 0, 0}}, {"a", "a", []int{1}}, {"a", "b", []int{0}}, {"a", "aa", []int{1, 1}}, {"aa", "aaa", []int{1, 2, 2}},
		{"abc", "xyz", []int{0, 0, 0}}, {"abc", "abc", []int{1, 2, 3}}, {"abc", "cba", []int{1, 1, 1}}, {"abc", "abcabc", []int{1, 2, 3, 1, 2, 3}}, {"abab", "babab", []int{1, 2, 3, 3, 4}},
		{"abcb", "bcba", []int{1, 2, 3, 1}}, {"abcbd", "abcd", []int{1, 2, 3, 1}}, {"abcbd", "abcbxbd", []int{1, 2, 3, 4, 0, 1, 2}}, {"\xff\x80\x00", "\x80\x00\xff\x80", []int{1, 2, 1, 2}}, {"\x00", "\x00\x00a\x00", []int{1, 1, 0, 1}},
		// Behind a link fewer bytes are found than the state has.
		{"xabc", "abc", []int{1, 2, 3}}, {"xabcabd", "cabd", []int{1, 2, 3, 4}}, {"xabyab", "zabyab", []int{0, 1, 2, 3, 4, 5}}, {"Sea", "sea", []int{0, 1, 2}},
	}
	for _, c := range cases {
		if longs := impl.LongestEnds(c.s, c.t); !slices.Equal(longs, c.longs) {
			t.Fatalf("%q in %q: %v, not %v", c.t, c.s, longs, c.longs)
		}
	}
}

// followFrom goes on from a state by the bytes of a text, one by one.
func followFrom(list []impl.State, from int, text string) int {
	at := from
	for _, b := range []byte(text) {
		if at < 0 || at >= len(list) {
			return -1
		}
		first := slices.IndexFunc(list[at].Next, func(edge impl.Edge) bool { return edge.Sign == int(b) })
		if first < 0 {
			return -1
		}
		at = list[at].Next[first].To
	}
	if at < 0 || at >= len(list) {
		return -1
	}
	return at
}

// checkFollow cuts a text in all ways, and goes on from where its beginning leads.
func checkFollow(t *testing.T, list []impl.State, text string) {
	t.Helper()
	at := impl.Follow(list, text)
	if at < -1 || at >= len(list) {
		t.Fatalf("%q leads to %d in %v", text, at, list)
	}
	for cut := 0; cut <= len(text); cut++ {
		begin := impl.Follow(list, text[:cut])
		if want := followFrom(list, begin, text[cut:]); at != want {
			t.Fatalf("%q leads to %d in %v, but %q leads to %d and on to %d", text, at, list, text[:cut], begin, want)
		}
	}
	if want := followFrom(list, 0, text); at != want {
		t.Fatalf("%q leads to %d in %v, not to %d", text, at, list, want)
	}
}

func TestP124ALongerTextLeadsOn(t *testing.T) {
	for _, s := range slices.Concat(allTexts("ab", 5), splitTexts(), []string{"the sea", "\x00\x80\xff\x80"}) {
		list := impl.MachineOf(s)
		for _, text := range slices.Concat(allPieces(s), allTexts("ab\x80", 4), splitTexts()) {
			checkFollow(t, list, text)
		}
	}
	for _, s := range longMachineTexts() {
		list := impl.MachineOf(s)
		for _, text := range []string{s, s[1:], s[len(s)/2:], s[len(s)/3:len(s)/2] + s[:9], s[len(s)-7:] + s} {
			checkFollow(t, list, text)
		}
	}
}

// oddStates returns numbers that are no state of small machines, and such that are.
func oddStates() []int {
	return []int{math.MinInt, -2, -1, 0, 1, 2, 3, math.MaxInt}
}

// oddSigns returns numbers that are bytes, and such that are none, though the same one with fewer bits.
func oddSigns() []int {
	return []int{'a', 'b', 0, 128, 255, math.MinInt, -256 + 'a', -1, 256, 256 + 'a', 1<<32 + 'a', math.MinInt + 'a', math.MaxInt}
}

func oddEdges() []impl.Edge {
	var next []impl.Edge
	for _, sign := range oddSigns() {
		for _, to := range oddStates() {
			next = append(next, impl.Edge{Sign: sign, To: to})
		}
	}
	return next
}

// oddMachines returns states that are the machine of no text.
func oddMachines() [][]impl.State {
	edges := oddEdges()
	machines := [][]impl.State{nil, {}, {{}}, {{Long: -5, Link: 9}}, {{}, {}}}
	for i, x := range edges {
		machines = append(machines, []impl.State{{Next: []impl.Edge{x}}}, []impl.State{{Long: math.MaxInt, Link: math.MinInt, Next: []impl.Edge{x}}, {Long: -1, Link: 7}})
		for _, y := range edges[i%3:] {
			machines = append(machines, []impl.State{{Next: []impl.Edge{x, y}}, {Link: -1}}, []impl.State{{Next: []impl.Edge{x}}, {Next: []impl.Edge{y}}})
		}
	}
	return machines
}

func TestP124OtherStatesAreFollowedByTheFirstEdge(t *testing.T) {
	texts := append(allTexts("ab", 3), "\x00", "\x80", "\xff", "\x00a", "a\x00", "a\xff", "\xffa\x80", "\x7f", "c", "aaaaaaaa", "abababab")
	for _, list := range oddMachines() {
		for _, text := range texts {
			if at, want := impl.Follow(list, text), followFrom(list, 0, text); at != want {
				t.Fatalf("%q leads to %d in %v, not to %d", text, at, list, want)
			}
		}
	}
	d := &drawn{state: 46}
	for range 3000 {
		list := drawnStates(d, 1+d.below(6))
		for range 10 {
			checkFollow(t, list, textOfBytes(d, "abc", d.below(20)))
		}
	}
}

// drawnStates returns states with edges in any order, also several with one byte, most of which lead to states that there are.
func drawnStates(d *drawn, n int) []impl.State {
	list := make([]impl.State, n)
	for i := range list {
		list[i] = impl.State{Long: d.below(9) - 3, Link: d.below(9) - 3}
		for range d.below(8) {
			list[i].Next = append(list[i].Next, impl.Edge{Sign: 'a' + d.below(4), To: d.below(n+2) - 1})
		}
	}
	return list
}

func TestP124WhereSomeTextsLead(t *testing.T) {
	loop := []impl.State{{Next: edgeRow('a', 0, 'b', 1)}, {Next: edgeRow('b', 1)}}
	cases := []struct {
		list []impl.State
		text string
		at   int
	}{
		// There is no first state, or nothing to follow.
		{nil, "", -1}, {nil, "a", -1}, {[]impl.State{}, "", -1}, {[]impl.State{{}}, "", 0}, {[]impl.State{{Long: -1, Link: 5}}, "", 0}, {[]impl.State{{}}, "a", -1}, {[]impl.State{{}, {}}, "", 0},
		// An edge leads to the state itself.
		{loop, "aaa", 0}, {loop, "aab", 1}, {loop, "abbb", 1}, {loop, "aba", -1}, {loop, "c", -1}, {loop, strings.Repeat("a", 10000) + strings.Repeat("b", 10000), 1},
		// An edge leads to a state that there is not.
		{[]impl.State{{Next: edgeRow('a', 1)}}, "a", -1}, {[]impl.State{{Next: edgeRow('a', 2)}, {}}, "a", -1}, {[]impl.State{{Next: edgeRow('a', -1)}}, "a", -1}, {[]impl.State{{Next: edgeRow('a', -2)}}, "a", -1}, {[]impl.State{{Next: edgeRow('a', -2)}}, "aa", -1},
		{[]impl.State{{Next: edgeRow('a', math.MaxInt)}}, "a", -1}, {[]impl.State{{Next: edgeRow('a', math.MinInt)}}, "a", -1}, {[]impl.State{{Next: edgeRow('a', math.MaxInt)}}, "", 0}, {[]impl.State{{Next: edgeRow('a', 1, 'b', 0)}}, "ba", -1},
		// Of two edges with one byte the first one is followed, also if it leads nowhere.
		{[]impl.State{{Next: edgeRow('a', 1, 'a', 0)}, {}}, "a", 1}, {[]impl.State{{Next: edgeRow('a', 0, 'a', 1)}, {}}, "a", 0}, {[]impl.State{{Next: edgeRow('a', 9, 'a', 0)}, {}}, "a", -1}, {[]impl.State{{Next: edgeRow('a', -1, 'a', 0)}, {}}, "a", -1},
		// Edges are out of order.
		{[]impl.State{{Next: edgeRow('b', 1, 'a', 2)}, {}, {}}, "a", 2}, {[]impl.State{{Next: edgeRow('c', 1, 'b', 2, 'a', 0)}, {}, {}}, "ac", 1}, {[]impl.State{{Next: edgeRow('b', 1, 'a', 2, 'b', 0)}, {}, {}}, "b", 1},
		// What is no byte is followed by no text.
		{[]impl.State{{Next: edgeRow('a'+256, 0, 'a'-256, 0, -1, 0, math.MaxInt, 0, math.MinInt, 0)}}, "a", -1}, {[]impl.State{{Next: edgeRow(256, 0, -256, 0, 1<<32, 0)}}, "\x00", -1}, {[]impl.State{{Next: edgeRow(-1, 0)}}, "\xff", -1}, {[]impl.State{{Next: edgeRow(-128, 0)}}, "\x80", -1},
		{[]impl.State{{Next: edgeRow(-1, 1, 255, 0)}, {}}, "\xff\xff", 0}, {[]impl.State{{Next: edgeRow(0, 1)}, {}}, "\x00", 1}, {[]impl.State{{Next: edgeRow(0xc3, 1)}, {Next: edgeRow(0x84, 2)}, {}}, "\xc3\x84", 2},
		{impl.MachineOf("abb"), "bb", 3}, {impl.MachineOf("abb"), "b", 4}, {impl.MachineOf("abb"), "ba", -1}, {impl.MachineOf(""), "", 0}, {impl.MachineOf(""), "a", -1},
	}
	for _, c := range cases {
		if at := impl.Follow(c.list, c.text); at != c.at {
			t.Fatalf("%q leads to %d in %v, not to %d", c.text, at, c.list, c.at)
		}
	}
}

// piecesByStates adds up what each state is longer than its link.
func piecesByStates(s string) int {
	list := impl.MachineOf(s)
	count := 0
	for _, state := range list[1:] {
		count += state.Long - list[state.Link].Long
	}
	return count
}

func checkCountPieces(t *testing.T, s string) {
	t.Helper()
	// The empty piece does not count.
	if n, want := impl.CountPieces(s), len(allPieces(s))-1; n != want || piecesByStates(s) != want {
		t.Fatalf("%q has %d pieces, not %d", s, n, want)
	}
}

func TestP125WhatTheStatesTellIsHowManyPiecesThereAre(t *testing.T) {
	for _, s := range slices.Concat(machineTexts(), fewTexts(), longMachineTexts()) {
		checkCountPieces(t, s)
	}
	d := &drawn{state: 47}
	for range 1000 {
		checkCountPieces(t, textOfBytes(d, "abcd"[:2+d.below(3)], d.below(60)))
	}
}

func TestP125HowManyPiecesSomeTextsHave(t *testing.T) {
	cases := []struct {
		s     string
		count int
	}{
		{"", 0}, {"a", 1}, {"\x00", 1}, {"\xff", 1}, {"aa", 2}, {"ab", 3}, {"aaa", 3}, {"aab", 5}, {"abc", 6}, {"aba", 5}, {"abab", 7}, {"abcabc", 15}, {"\x00\x80\xff", 6}, {"\xff\xff\xff\xff", 4},
		{strings.Repeat("a", 100000), 100000}, {"a" + strings.Repeat("b", 99999), 199999}, {strings.Repeat("ab", 50000), 199999}, {strings.Repeat("a", 50000) + strings.Repeat("b", 50000), 50000*50000 + 100000},
	}
	for _, c := range cases {
		if count := impl.CountPieces(c.s); count != c.count {
			t.Fatalf("%q has %d pieces, not %d", c.s[:min(len(c.s), 20)], count, c.count)
		}
	}
}

func checkHowOften(t *testing.T, s string, piece string) {
	t.Helper()
	if n, want := impl.HowOften(s, piece), len(placesOneByOne(s, piece)); n != want {
		t.Fatalf("%q in %q: %d times, not %d", piece, s, n, want)
	}
}

func TestP126EndsThatAreCountedAreThePlacesOfAPiece(t *testing.T) {
	for _, s := range slices.Concat(allTexts("ab", 6), allTexts("\x00\x80\xff", 3), splitTexts(), []string{"the sea, the sea", "abcabcab"}) {
		for _, piece := range slices.Concat(allPieces(s), []string{s + "a", s + s, "x" + s, "\x00", "\x7f", "\xff\xff", "aba", "bb", "abababab"}) {
			checkHowOften(t, s, piece)
		}
	}
	for _, pair := range slices.Concat(shortPairs(), textPairs(fewTexts())) {
		checkHowOften(t, pair[0], pair[1])
	}
}

// statesOfBeginnings tells of each state whether it is that of the whole text up to a byte.
func statesOfBeginnings(list []impl.State, s string) []bool {
	begins := make([]bool, len(list))
	for to := 1; to <= len(s); to++ {
		begins[impl.Follow(list, s[:to])] = true
	}
	return begins
}

// endsByLinks counts for each state the states of beginnings from which links lead to it, or that it is itself.
func endsByLinks(list []impl.State, s string) []int {
	counts := make([]int, len(list))
	for i, begins := range statesOfBeginnings(list, s) {
		for at := i; begins && at >= 0; at = list[at].Link {
			counts[at]++
		}
	}
	return counts
}

func TestP126EndsOfLongTexts(t *testing.T) {
	d := &drawn{state: 48}
	for _, s := range longMachineTexts() {
		list := impl.MachineOf(s)
		counts := endsByLinks(list, s)
		places := suffixarray.New([]byte(s))
		pieces := []string{s, s[1:], s[:len(s)-1], s[:1], s[len(s)-1:]}
		for range 60 {
			from := d.below(len(s) - 9)
			pieces = append(pieces, s[from:from+1], s[from:from+3], s[from:from+1+d.below(9)], s[from:from+1+d.below(len(s)-from)])
		}
		for _, piece := range pieces {
			n := impl.HowOften(s, piece)
			if want := len(places.Lookup([]byte(piece), -1)); n != want || counts[impl.Follow(list, piece)] != want {
				t.Fatalf("%q in %q: %d times, not %d", piece, s, n, want)
			}
		}
	}
}

func TestP126HowOftenSomeTextsHaveAPiece(t *testing.T) {
	cases := []struct {
		s     string
		piece string
		count int
	}{
		{"", "", 0}, {"a", "", 0}, {"aaa", "", 0}, {"", "a", 0}, {"", "\x00", 0}, {"a", "a", 1}, {"a", "b", 0}, {"a", "aa", 0}, {"aa", "a", 2}, {"aa", "aa", 1}, {"aaaa", "aa", 3}, {"aaaa", "aaaaa", 0},
		{"abab", "ab", 2}, {"abab", "ba", 1}, {"ababa", "aba", 2}, {"abb", "b", 2}, {"abb", "bb", 1}, {"abcbc", "bc", 2}, {"xabyabzb", "b", 3}, {"xabyabzb", "ab", 2}, {"xabyabzb", "xab", 1}, {"xabybzab", "b", 3}, {"xabybzab", "ab", 2},
		{"\x00\x00a\x00", "\x00", 3}, {"\x00\x00a\x00", "\x00\x00", 1}, {"\xff\x80\xff", "\xff", 2}, {"\xff\x80\xff", "\x7f", 0}, {"\xc3\x84\xc3\xa4", "\xc3", 2}, {"the sea", "The", 0}, {"the sea", "e", 2},
	}
	for _, c := range cases {
		if count := impl.HowOften(c.s, c.piece); count != c.count {
			t.Fatalf("%q in %q: %d times, not %d", c.piece, c.s, count, c.count)
		}
	}
}

// These texts have so many states, or so many links one behind the other, that all is told in time only if none is gone along again for each byte.
func TestP16MachinesOfVeryLongTexts(t *testing.T) {
	d := &drawn{state: 49}
	const n = 1 << 18
	same := strings.Repeat("a", n)
	for _, s := range []string{same, strings.Repeat("ab", n/2), "b" + same[1:], fibonacciText(n), textOfBytes(d, "ab", n), textOfBytes(d, allBytes(), n), drawnText(d, n, 2)} {
		if list := impl.MachineOf(s); len(list) > 2*n-1 || countEdges(list) > 3*n-4 || impl.Follow(list, s[n/2:]) < 0 {
			t.Fatal(s[:20], len(list), countEdges(list))
		}
	}
}

func TestP126EndsOfVeryManyStates(t *testing.T) {
	const n = 1 << 18
	same := strings.Repeat("a", n)
	if count := impl.HowOften(same, "a"); count != n {
		t.Fatal(count)
	}
	if count := impl.HowOften(same, same[:n/2]); count != n/2+1 {
		t.Fatal(count)
	}
	if count := impl.HowOften("ab"+same, "a"); count != n+1 {
		t.Fatal(count)
	}
}

func TestP19LongestEndsOfVeryLongTexts(t *testing.T) {
	const n = 1 << 18
	same := strings.Repeat("a", n)
	longs := impl.LongestEnds(same, same+"b"+same+"a")
	if len(longs) != 2*n+2 || longs[n-1] != n || longs[n] != 0 || longs[2*n] != n || longs[2*n+1] != n {
		t.Fatal(len(longs))
	}
}

// scribbledStates overwrites all that states can reach.
func scribbledStates(list []impl.State) {
	for i := range list {
		scribbled(list[i].Next, impl.Edge{Sign: -7, To: -7})
	}
	scribbled(list, impl.State{Long: -7, Link: -7})
}

func TestMachinesOwnTheirMemory(t *testing.T) {
	for _, s := range slices.Concat(splitTexts(), allTexts("ab", 5), longMachineTexts()) {
		list := impl.MachineOf(s)
		kept := copiedStates(list)
		scribbledStates(impl.MachineOf(s))
		if later := impl.MachineOf(s); !slices.EqualFunc(list, kept, sameState) || !slices.EqualFunc(later, kept, sameState) {
			t.Fatalf("%q: %v became %v, %v", s, kept, list, later)
		}
	}
}

func TestEachStateOwnsItsEdges(t *testing.T) {
	for _, s := range slices.Concat(splitTexts(), allTexts("ab", 5), []string{fibonacciText(100), strings.Repeat("ab", 50), allBytes() + "\x80\x00"}) {
		list := impl.MachineOf(s)
		kept := copiedStates(list)
		for i := range list {
			scribbled(list[i].Next, impl.Edge{Sign: -7, To: -7})
			// So far just the edges up to those of this state are overwritten.
			for at, state := range list {
				alike := !slices.ContainsFunc(state.Next, func(edge impl.Edge) bool { return edge != impl.Edge{Sign: -7, To: -7} })
				if at <= i && !alike || at > i && !sameState(state, kept[at]) {
					t.Fatalf("%q: with the edges of state %d those of state %d became %v", s, i, at, state.Next)
				}
			}
		}
	}
}

// What is put behind the edges of one state is written over by what is put behind those of another one if they share memory.
func TestEdgesThatGrowStayApart(t *testing.T) {
	for _, s := range slices.Concat(splitTexts(), allTexts("ab", 6), []string{fibonacciText(100)}) {
		list := impl.MachineOf(s)
		for i := range list {
			list[i].Next = append(list[i].Next, impl.Edge{Sign: 1000 + i, To: i})
		}
		for i, state := range list {
			if last := state.Next[len(state.Next)-1]; last.Sign != 1000+i || last.To != i {
				t.Fatalf("%q: behind the edges of state %d stands %v", s, i, last)
			}
		}
	}
}

func TestLongestEndsOwnTheirMemory(t *testing.T) {
	for _, pair := range append(textPairs(splitTexts()), [2]string{"", ""}, [2]string{"", "a"}, [2]string{strings.Repeat("ab", 50), strings.Repeat("ba", 40)}) {
		checkListIsOwn(t, func() []int { return impl.LongestEnds(pair[0], pair[1]) }, -7)
	}
}

// statesWithMore returns states that are part of a longer row, as are the edges of each, so that writing behind them is seen too.
func statesWithMore(list []impl.State) []impl.State {
	all := append(copiedStates(list), impl.State{Long: 3, Link: 1, Next: edgeRow('a', 0)}, impl.State{Long: 4})
	for i := range all {
		next := append(slices.Clone(all[i].Next), edgeRow('a', 1, 'b', 0)...)
		all[i].Next = next[:len(all[i].Next)]
	}
	return all
}

// allOfStates returns states and all of their memory.
func allOfStates(list []impl.State) []impl.State {
	all := copiedStates(list)
	for i := range all {
		all[i].Next = slices.Clone(list[i].Next[:cap(list[i].Next)])
	}
	return all
}

func TestFollowingWritesToNoMachine(t *testing.T) {
	d := &drawn{state: 50}
	machines := [][]impl.State{nil, {{}}, {{Next: edgeRow('b', 1, 'a', 0, 'a', 5)}, {Next: edgeRow('a', -1)}}, impl.MachineOf("xabyabzb"), impl.MachineOf("\xff\x80\xff")}
	for range 50 {
		machines = append(machines, drawnStates(d, 1+d.below(6)))
	}
	for _, list := range machines {
		all := statesWithMore(list)
		kept := allOfStates(all)
		for _, text := range append(allTexts("ab", 4), "xab", "\xff\x80", "abababab") {
			at := impl.Follow(all[:len(list)], text)
			if want := impl.Follow(list, text); at != want {
				t.Fatalf("%q leads to %d, not to %d: %v", text, at, want, list)
			}
		}
		if !slices.EqualFunc(allOfStates(all), kept, sameState) {
			t.Fatalf("%v became %v", kept, all)
		}
	}
}

func TestMachinesWriteToNoText(t *testing.T) {
	for _, pair := range slices.Concat(textPairs(splitTexts()), shortPairs()) {
		// The arguments are parts of a longer text, so that writing beside them is seen too.
		all := strings.Clone("ahead" + pair[0] + "between" + pair[1] + "behind")
		kept := strings.Clone(all)
		from := 5 + len(pair[0]) + 7
		a, b := all[5:5+len(pair[0])], all[from:from+len(pair[1])]
		scribbledStates(impl.MachineOf(a))
		scribbled(impl.LongestEnds(a, b), -7)
		impl.HasPiece(a, b)
		impl.HowOften(a, b)
		impl.CountPieces(a)
		impl.Follow(impl.MachineOf(a), b)
		if all != kept {
			t.Fatalf("%q became %q", kept, all)
		}
	}
}
