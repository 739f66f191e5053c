package tests

import (
	"maps"
	"math"
	"slices"
	"strings"
	"testing"

	"loop.example/copiedtexts/impl"
)

var (
	_ func(string) []impl.Word         = impl.WordsOf
	_ func([]impl.Word) []string       = impl.TextsOf
	_ func([]string) string            = impl.Joined
	_ func(string) []impl.Span         = impl.SentencesOf
	_ func(string, int) int            = impl.WordAt
	_ func([]string) ([]string, []int) = impl.WordCounts
)

// sentenceTexts returns texts without words, texts with sentences that end with several signs, and texts whose last sentence does not end.
func sentenceTexts() []string {
	return []string{
		".", "!", "?", "...", "?!", " . ! ? ", ".!?.!?", ",.,!,?,", "\n.\n",
		"a.", "a!", "a?", "a?!", "a...", "a.!?", "a . ! ?", "a ,. b", "A b?! C d... e.!? F",
		"a", "a b", "a. b", "a. b,", "a. b c \n", "a! \xc3\x84", "a... b",
		"?a", "...a", " ! a. ", "3.14", "a.b.c", "a.b!c?d", ".a.", "a.,b", "a. . .b", "a;b:c",
		"\x80.\xff!", "\xe2\x80\xa6 a", "One, two. Three? Four! five", "a b. c? ",
	}
}

func wordTexts() []string {
	return append(append(shortTexts(), sentenceTexts()...), allTexts("a .?\xff", 5)...)
}

func longWordTexts() []string {
	texts := longTexts()
	d := &drawn{state: 2}
	for _, alphabet := range []string{"aB.!? ,\x80", "ab c.", ".!?, a", "abcdefgh "} {
		texts = append(texts, textOfBytes(d, alphabet, 1000))
	}
	return append(texts, strings.Repeat("a ", 500), strings.Repeat("a.", 500), strings.Repeat("?!", 500))
}

func isEnder(b byte) bool {
	return strings.IndexByte(".!?", b) >= 0
}

func isGapRune(r rune) bool {
	return r < 128 && isGap(byte(r))
}

func isEnderRune(r rune) bool {
	return r < 128 && isEnder(byte(r))
}

// spansOfParts tells where parts that stand one behind the other stand in a text, if none begins with a gap, and just gaps are between.
func spansOfParts(s string, parts []string) []impl.Span {
	var spans []impl.Span
	to := 0
	for _, part := range parts {
		from := to + strings.Index(s[to:], part)
		to = from + len(part)
		spans = append(spans, impl.Span{From: from, To: to})
	}
	return spans
}

func wordsByFields(s string) []impl.Word {
	fields := strings.FieldsFunc(s, isGapRune)
	var words []impl.Word
	for i, span := range spansOfParts(s, fields) {
		text := []byte(fields[i])
		for j := range text {
			text[j] = loweredSign(text[j])
		}
		words = append(words, impl.Word{Text: string(text), From: span.From, To: span.To})
	}
	return words
}

func sentencesByFields(s string) []impl.Span {
	var parts []string
	for _, part := range strings.FieldsFunc(s, isEnderRune) {
		if trimmed := strings.TrimFunc(part, isGapRune); trimmed != "" {
			parts = append(parts, trimmed)
		}
	}
	return spansOfParts(s, parts)
}

func wordFrom(text string, from int, to int) impl.Word {
	return impl.Word{Text: text, From: from, To: to}
}

// spansBetween returns the spans from each first one of two numbers up to the second one.
func spansBetween(ends ...int) []impl.Span {
	var list []impl.Span
	for i := 0; i < len(ends); i += 2 {
		list = append(list, impl.Span{From: ends[i], To: ends[i+1]})
	}
	return list
}

func textsOfWords(words []impl.Word) []string {
	var texts []string
	for _, word := range words {
		texts = append(texts, word.Text)
	}
	return texts
}

// drawnWords returns texts of words: not empty, alike, and without gaps.
func drawnWords(d *drawn, n int) []string {
	signs := "abz059\x80\xc3\xff"
	var words []string
	for len(words) < n {
		word := make([]byte, 1+d.below(4))
		for i := range word {
			word[i] = signs[d.below(len(signs))]
		}
		words = append(words, string(word))
	}
	return words
}

// someRows returns rows of texts: none, empty ones, such that come again, such that are not alike, and up to 1000.
func someRows() [][]string {
	d := &drawn{state: 3}
	rows := [][]string{
		nil, {}, {""}, {"", ""}, {"", "", ""}, {"a"}, {"b", "a", "b"}, {"a", "a", "a"}, {"", "a", ""}, {"a", "", "b"},
		{" "}, {" ", " "}, {"a b", "c"}, {" a", "b "}, {"The", "the", "THE"}, {"ab", "a", "abc", "", "b"},
		{"\xff", "\x80", "\x7f", "a", "\x00", ""}, {"\xc3\x84", "\xc3", "z"}, {"a\x00", "a", "a\x00\x00"},
		strings.Split(allBytes(), ""), namedTexts(), sentenceTexts(), longTexts(), allTexts("a\xff", 6),
	}
	for _, n := range []int{1, 2, 3, 4, 5, 7, 8, 9, 100, 999, 1000} {
		rows = append(rows, drawnWords(d, n))
	}
	return rows
}

func checkWords(t *testing.T, s string) {
	t.Helper()
	words := impl.WordsOf(s)
	inWord := make([]bool, len(s))
	end := -1
	for i, word := range words {
		if word.From <= end || word.To <= word.From || word.To > len(s) {
			t.Fatalf("%q: word %d of %v", s, i, words)
		}
		if alikeText(s[word.From:word.To]) != word.Text || word.Text == "" {
			t.Fatalf("%q: word %d of %v is not what stands there", s, i, words)
		}
		for at := word.From; at < word.To; at++ {
			inWord[at] = true
		}
		end = word.To
	}
	for at := range inWord {
		if inWord[at] == isGap(s[at]) {
			t.Fatalf("%q: place %d and %v", s, at, words)
		}
	}
	if joined := strings.Join(textsOfWords(words), " "); joined != alikeText(s) {
		t.Fatalf("%q: %q is not %q", s, joined, alikeText(s))
	}
	if want := wordsByFields(s); !slices.Equal(words, want) {
		t.Fatalf("%q: %v, not %v", s, words, want)
	}
}

func TestP3WordsStandBetweenGaps(t *testing.T) {
	for _, s := range wordTexts() {
		checkWords(t, s)
	}
}

func TestP225WordsStandBetweenGapsUpTo1000(t *testing.T) {
	for _, s := range longWordTexts() {
		checkWords(t, s)
	}
	for _, row := range someRows() {
		checkWords(t, strings.Join(row, " "))
	}
}

func TestP3WordsOfSomeTexts(t *testing.T) {
	cases := []struct {
		s     string
		words []impl.Word
	}{
		{"", nil},
		{" ,.!?\x00\x7f", nil},
		{"...", nil},
		{"The Sea, the sea!", []impl.Word{wordFrom("the", 0, 3), wordFrom("sea", 4, 7), wordFrom("the", 9, 12), wordFrom("sea", 13, 16)}},
		{"A", []impl.Word{wordFrom("a", 0, 1)}},
		{"--A--", []impl.Word{wordFrom("a", 2, 3)}},
		{"don't", []impl.Word{wordFrom("don", 0, 3), wordFrom("t", 4, 5)}},
		{"\xc3\x84 \xff7Z", []impl.Word{wordFrom("\xc3\x84", 0, 2), wordFrom("\xff7z", 3, 6)}},
	}
	for _, c := range cases {
		if words := impl.WordsOf(c.s); !slices.Equal(words, c.words) {
			t.Fatalf("%q: %v", c.s, words)
		}
	}
}

func TestP90AsManyTextsAsWords(t *testing.T) {
	lists := [][]impl.Word{
		nil, {}, {{}}, {{}, {}}, {wordFrom("a", 0, 1)}, {wordFrom("a", 0, 1), wordFrom("a", 0, 1)},
		{wordFrom("", 0, 0), wordFrom("b", 3, 2), wordFrom(" A,", -7, math.MaxInt), wordFrom("\xff", math.MinInt, 0), wordFrom("", 9, 9)},
	}
	for _, s := range append(wordTexts(), longWordTexts()...) {
		lists = append(lists, impl.WordsOf(s))
	}
	for _, words := range lists {
		texts := impl.TextsOf(words)
		if len(texts) != len(words) {
			t.Fatalf("%d texts of %d words", len(texts), len(words))
		}
		for i := range texts {
			if texts[i] != words[i].Text {
				t.Fatalf("text %d of %v: %q", i, words, texts)
			}
		}
	}
}

func TestP91WhatIsJoinedIsAsLong(t *testing.T) {
	for _, row := range someRows() {
		long := max(len(row)-1, 0)
		for _, text := range row {
			long += len(text)
		}
		joined := impl.Joined(row)
		if len(joined) != long {
			t.Fatalf("%q: %q has %d bytes, not %d", row, joined, len(joined), long)
		}
		if want := strings.Join(row, " "); joined != want {
			t.Fatalf("%q: %q, not %q", row, joined, want)
		}
	}
}

func TestP91JoinedOfSomeTexts(t *testing.T) {
	cases := []struct {
		texts  []string
		joined string
	}{
		{nil, ""}, {[]string{}, ""}, {[]string{""}, ""}, {[]string{"", ""}, " "}, {[]string{"", "", ""}, "  "},
		{[]string{"a"}, "a"}, {[]string{"a", "a"}, "a a"}, {[]string{"a", "", "b"}, "a  b"}, {[]string{" ", "B."}, "  B."},
		{[]string{"\xc3", "\x84"}, "\xc3 \x84"},
	}
	for _, c := range cases {
		if joined := impl.Joined(c.texts); joined != c.joined {
			t.Fatalf("%q: %q", c.texts, joined)
		}
	}
}

func TestP92JoinedWordsAreTheWordsOfIt(t *testing.T) {
	d := &drawn{state: 4}
	for n := range 1001 {
		if n > 40 && n%120 != 40 {
			continue
		}
		row := drawnWords(d, n)
		words := impl.WordsOf(impl.Joined(row))
		if !slices.Equal(impl.TextsOf(words), row) {
			t.Fatalf("%q: %v", row, words)
		}
		at := 0
		for i, word := range words {
			if word.From != at || word.To != at+len(row[i]) {
				t.Fatalf("%q: word %d is %v, not at %d", row, i, word, at)
			}
			at += len(row[i]) + 1
		}
	}
}

func TestP92WhatIsAlikeIsToldByItsWords(t *testing.T) {
	for _, s := range append(wordTexts(), longWordTexts()...) {
		texts := impl.TextsOf(impl.WordsOf(s))
		joined := impl.Joined(texts)
		if joined != alikeText(s) || !slices.Equal(impl.TextsOf(impl.WordsOf(joined)), texts) {
			t.Fatalf("%q: %q, %q", s, texts, joined)
		}
	}
	texts := append(namedTexts(), allTexts("aA ,", 3)...)
	for _, a := range texts {
		for _, b := range texts {
			sameWords := slices.Equal(impl.TextsOf(impl.WordsOf(a)), impl.TextsOf(impl.WordsOf(b)))
			if sameWords != impl.SameAlike(a, b) {
				t.Fatalf("%q and %q have the same words: %v", a, b, sameWords)
			}
		}
	}
}

func checkSentences(t *testing.T, s string) {
	t.Helper()
	sentences := impl.SentencesOf(s)
	end := 0
	for i, span := range sentences {
		if span.From < end || span.To <= span.From || span.To > len(s) {
			t.Fatalf("%q: sentence %d of %v", s, i, sentences)
		}
		if isGap(s[span.From]) || isGap(s[span.To-1]) {
			t.Fatalf("%q: a gap at an end of sentence %d of %v", s, i, sentences)
		}
		if strings.ContainsAny(s[span.From:span.To], ".!?") {
			t.Fatalf("%q: an end within sentence %d of %v", s, i, sentences)
		}
		if i > 0 && !strings.ContainsAny(s[end:span.From], ".!?") {
			t.Fatalf("%q: no end ahead of sentence %d of %v", s, i, sentences)
		}
		end = span.To
	}
	for _, word := range impl.WordsOf(s) {
		in := 0
		for _, span := range sentences {
			if span.From <= word.From && word.To <= span.To {
				in++
			}
		}
		if in != 1 {
			t.Fatalf("%q: %v is in %d of %v", s, word, in, sentences)
		}
	}
	if want := sentencesByFields(s); !slices.Equal(sentences, want) {
		t.Fatalf("%q: %v, not %v", s, sentences, want)
	}
}

func TestP93EachWordStandsInOneSentence(t *testing.T) {
	for _, s := range append(wordTexts(), allTexts("a .!,", 6)...) {
		checkSentences(t, s)
	}
	for _, s := range longWordTexts() {
		checkSentences(t, s)
	}
}

func TestP93SentencesOfSomeTexts(t *testing.T) {
	cases := []struct {
		s         string
		sentences []impl.Span
	}{
		{"", nil}, {" ", nil}, {".", nil}, {"?!...", nil}, {" . ! ? ", nil}, {",;:", nil},
		{"a", spansBetween(0, 1)},
		{" a, b ,", spansBetween(1, 5)},
		{"a b. c? ", spansBetween(0, 3, 5, 6)},
		{"a. b", spansBetween(0, 1, 3, 4)},
		{"a. b, ", spansBetween(0, 1, 3, 4)},
		{"a?! b... c.!? d", spansBetween(0, 1, 4, 5, 9, 10, 14, 15)},
		{"a . ! ? b", spansBetween(0, 1, 8, 9)},
		{"...a", spansBetween(3, 4)},
		{"(A b), \"c\"! (D)?", spansBetween(1, 9, 13, 14)},
		{"3.14", spansBetween(0, 1, 2, 4)},
		{"a;b:c,d", spansBetween(0, 7)},
		{"\xc3\x84.\xff", spansBetween(0, 2, 3, 4)},
	}
	for _, c := range cases {
		if sentences := impl.SentencesOf(c.s); !slices.Equal(sentences, c.sentences) {
			t.Fatalf("%q: %v", c.s, sentences)
		}
	}
}

func TestP93EachByteThatEnds(t *testing.T) {
	for b := 0; b < 256; b++ {
		s := string([]byte{'x', byte(b), 'x'})
		want := []impl.Span{{From: 0, To: 3}}
		if isEnder(byte(b)) {
			want = []impl.Span{{From: 0, To: 1}, {From: 2, To: 3}}
		}
		if sentences := impl.SentencesOf(s); !slices.Equal(sentences, want) {
			t.Fatalf("%q: %v", s, sentences)
		}
	}
}

func checkWordAt(t *testing.T, s string) {
	t.Helper()
	want := make([]int, len(s))
	for at := range want {
		want[at] = -1
	}
	for i, word := range wordsByFields(s) {
		for at := word.From; at < word.To; at++ {
			want[at] = i
		}
	}
	for at := range want {
		got := impl.WordAt(s, at)
		if got != want[at] || (got >= 0) == isGap(s[at]) {
			t.Fatalf("%q at %d: %d, not %d", s, at, got, want[at])
		}
	}
	for _, at := range []int{-1, -2, -len(s) - 1, math.MinInt, len(s), len(s) + 1, 2*len(s) + 1, math.MaxInt} {
		if got := impl.WordAt(s, at); got != -1 {
			t.Fatalf("%q at %d: %d", s, at, got)
		}
	}
}

func TestP94APlaceIsInAWordIfItIsNoGap(t *testing.T) {
	for _, s := range wordTexts() {
		checkWordAt(t, s)
	}
	for _, s := range longWordTexts() {
		checkWordAt(t, s)
	}
}

func TestP94WordAtOfSomePlaces(t *testing.T) {
	cases := []struct {
		s     string
		at    int
		index int
	}{
		{"The Sea, the sea!", 0, 0}, {"The Sea, the sea!", 2, 0}, {"The Sea, the sea!", 3, -1}, {"The Sea, the sea!", 4, 1},
		{"The Sea, the sea!", 6, 1}, {"The Sea, the sea!", 8, -1}, {"The Sea, the sea!", 15, 3}, {"The Sea, the sea!", 16, -1},
		{"The Sea, the sea!", 17, -1}, {"The Sea, the sea!", -1, -1},
		{"a", 0, 0}, {"a", 1, -1}, {"a", -1, -1}, {".a", 0, -1}, {".a", 1, 0}, {"\xff", 0, 0},
		{"", 0, -1}, {"", -1, -1}, {"", 1, -1}, {" . ", 1, -1}, {"...", 2, -1},
	}
	for _, c := range cases {
		if index := impl.WordAt(c.s, c.at); index != c.index {
			t.Fatalf("%q at %d: %d", c.s, c.at, index)
		}
	}
}

func checkCounts(t *testing.T, texts []string) {
	t.Helper()
	words, counts := impl.WordCounts(texts)
	if len(words) != len(counts) {
		t.Fatalf("%q: %d words, %d numbers", texts, len(words), len(counts))
	}
	all := 0
	for i := range words {
		if i > 0 && words[i-1] >= words[i] {
			t.Fatalf("%q: %q is not ascending", texts, words)
		}
		all += counts[i]
	}
	if all != len(texts) {
		t.Fatalf("%q: %d are counted, not %d", texts, all, len(texts))
	}
	want := map[string]int{}
	for _, text := range texts {
		want[text]++
	}
	if !slices.Equal(words, slices.Sorted(maps.Keys(want))) {
		t.Fatalf("%q: %q", texts, words)
	}
	for i, word := range words {
		if counts[i] != want[word] {
			t.Fatalf("%q: %q is there %d times, not %d", texts, word, counts[i], want[word])
		}
	}
}

func TestP95CountedWordsAreAscendingAndAll(t *testing.T) {
	for _, row := range someRows() {
		checkCounts(t, row)
		turned := slices.Clone(row)
		slices.Reverse(turned)
		checkCounts(t, turned)
		checkCounts(t, append(turned, row...))
	}
	for _, s := range longWordTexts() {
		checkCounts(t, impl.TextsOf(impl.WordsOf(s)))
	}
}

func TestP95CountsInAllOrders(t *testing.T) {
	for _, s := range allTexts("abcd", 6) {
		checkCounts(t, strings.Split(s, ""))
	}
}

func TestP95WordCountsOfSomeTexts(t *testing.T) {
	cases := []struct {
		texts  []string
		words  []string
		counts []int
	}{
		{nil, nil, nil}, {[]string{}, nil, nil}, {[]string{""}, []string{""}, []int{1}}, {[]string{"", ""}, []string{""}, []int{2}},
		{[]string{"b", "a", "b"}, []string{"a", "b"}, []int{1, 2}},
		{[]string{"ab", "", "a", "b", "ab", ""}, []string{"", "a", "ab", "b"}, []int{2, 1, 2, 1}},
		{[]string{"the", "The", "the sea", " the"}, []string{" the", "The", "the", "the sea"}, []int{1, 1, 1, 1}},
		{[]string{"\xff", "z", "\xc3\x84", "\xff", "\x80"}, []string{"z", "\x80", "\xc3\x84", "\xff"}, []int{1, 1, 1, 2}},
	}
	for _, c := range cases {
		words, counts := impl.WordCounts(c.texts)
		if !slices.Equal(words, c.words) || !slices.Equal(counts, c.counts) {
			t.Fatalf("%q: %q, %v", c.texts, words, counts)
		}
	}
}

func TestWordTextsOwnTheirMemory(t *testing.T) {
	s := strings.Clone("the sea the old sea of stones")
	words := impl.WordsOf(s)
	checkNoOverlap(t, "WordsOf", textsOfWords(words), []string{s})

	texts := impl.TextsOf(words)
	checkNoOverlap(t, "TextsOf", texts, textsOfWords(words))

	row := append(slices.Clone(texts), texts...)
	for _, list := range [][]string{row, texts[:1], texts[:0], {"", s, ""}} {
		checkNoOverlap(t, "Joined", []string{impl.Joined(list)}, list)
		counted, _ := impl.WordCounts(list)
		checkNoOverlap(t, "WordCounts", counted, list)
	}
}

func TestWordListsOwnTheirMemory(t *testing.T) {
	s := "the sea. the old sea! of stones"
	words, sentences := impl.WordsOf(s), impl.SentencesOf(s)
	keptWords, keptSentences := slices.Clone(words), slices.Clone(sentences)
	scribbled(impl.WordsOf(s), impl.Word{Text: "x"})
	scribbled(impl.SentencesOf(s), impl.Span{From: -7})
	if !slices.Equal(words, keptWords) || !slices.Equal(sentences, keptSentences) {
		t.Fatal(words, sentences)
	}
	texts := impl.TextsOf(words)
	keptTexts := slices.Clone(texts)
	scribbled(impl.TextsOf(words), "x")
	if !slices.Equal(texts, keptTexts) || !slices.Equal(words, keptWords) {
		t.Fatal(texts, words)
	}
}

func TestWordCountsOwnTheirMemory(t *testing.T) {
	for _, row := range [][]string{{"a"}, {"a", "b"}, {"a", "b", "c", "d"}, {"b", "a", "b"}, {"", ""}} {
		// More texts stand behind those of the row, so that spare memory is seen if it is written to.
		all := append(slices.Clone(row), "behind", "it")
		argument := all[:len(row)]
		kept := slices.Clone(all)
		words, counts := impl.WordCounts(argument)
		keptWords, keptCounts := slices.Clone(words), slices.Clone(counts)
		otherWords, otherCounts := impl.WordCounts(argument)
		scribbled(otherWords, "x")
		scribbled(otherCounts, -7)
		if !slices.Equal(all, kept) || !slices.Equal(words, keptWords) || !slices.Equal(counts, keptCounts) {
			t.Fatalf("%q: %q, %q, %v", row, all, words, counts)
		}
	}
}

func TestWordsWriteToNoArgument(t *testing.T) {
	for _, s := range append(namedTexts(), sentenceTexts()...) {
		kept := strings.Clone(s)
		impl.WordsOf(s)
		impl.SentencesOf(s)
		impl.WordAt(s, len(s)/2)
		if s != kept {
			t.Fatalf("%q became %q", kept, s)
		}
	}
	for _, row := range someRows() {
		all := append(slices.Clone(row), "z", "behind", "it")
		kept := slices.Clone(all)
		impl.Joined(all[:len(row)])
		impl.WordCounts(all[:len(row)])
		if !slices.Equal(all, kept) {
			t.Fatalf("%q became %q", kept, all)
		}
		var words []impl.Word
		for i, text := range all {
			words = append(words, impl.Word{Text: text, From: -i, To: i})
		}
		keptWords := slices.Clone(words)
		impl.TextsOf(words[:len(row)])
		if !slices.Equal(words, keptWords) {
			t.Fatalf("%v became %v", keptWords, words)
		}
	}
}
