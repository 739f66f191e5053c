package impl

const signGap = 32

// SignOf returns what a byte (0 to 255) becomes in a text that is made alike: small letters, digits and bytes from 128 on stay, great letters become small ones, and all others are gaps (32). It returns -1 for numbers that are no bytes.
func SignOf(b int) int {
	if b < 0 || b > 255 {
		return -1
	}
	if isGreatLetter(b) {
		return b - 'A' + 'a'
	}
	if isSmallLetter(b) || isDigit(b) || b >= 128 {
		return b
	}
	return signGap
}

func isGreatLetter(b int) bool {
	return b >= 'A' && b <= 'Z'
}

func isSmallLetter(b int) bool {
	return b >= 'a' && b <= 'z'
}

func isDigit(b int) bool {
	return b >= '0' && b <= '9'
}

// Alike returns a text made alike, and for each of its signs the place in the text that it comes from: all bytes that are no gaps as what they become (SignOf), in order, and one space, from the first byte of the gap, for all gaps that stand between two of them; gaps ahead of the first and behind the last one are left out.
func Alike(s string) (string, []int) {
	var signs []byte
	var places []int
	gapAt := -1
	for i := 0; i < len(s); i++ {
		sign := SignOf(int(s[i]))
		if sign != signGap {
			// A gap is written only here, ahead of a sign, so that none is left at the end.
			if gapAt >= 0 && len(signs) > 0 {
				signs = append(signs, signGap)
				places = append(places, gapAt)
			}
			signs = append(signs, byte(sign))
			places = append(places, i)
			gapAt = -1
		} else if gapAt < 0 {
			gapAt = i
		}
	}
	return string(signs), places
}

// IsAlike reports whether a text is its own text made alike (Alike).
func IsAlike(s string) bool {
	text, _ := Alike(s)
	return text == s
}

// SameAlike reports whether two texts are the same one made alike.
func SameAlike(a string, b string) bool {
	textA, _ := Alike(a)
	textB, _ := Alike(b)
	return textA == textB
}

// SpanBack returns the first and the last place, and one more, in a text of the signs from a place up to another one of the text made alike, and true; 0, 0 and false if these are no places of it, or there are none between.
func SpanBack(s string, from int, to int) (int, int, bool) {
	_, places := Alike(s)
	if from < 0 || to > len(places) || from >= to {
		return 0, 0, false
	}
	return places[from], places[to-1] + 1, true
}

// SignCounts returns how many signs of a text made alike are letters and digits below 128, how many are bytes from 128 on, and how many are spaces.
func SignCounts(s string) (int, int, int) {
	text, _ := Alike(s)
	plain, high, spaces := 0, 0, 0
	for i := 0; i < len(text); i++ {
		sign := int(text[i])
		if sign == signGap {
			spaces++
		} else if sign >= 128 {
			high++
		} else {
			plain++
		}
	}
	return plain, high, spaces
}
