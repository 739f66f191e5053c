package tests

import "strings"

// gapBytes are all bytes below 128 that are neither letters nor digits.
func gapBytes() string {
	var list []byte
	for b := 0; b < 128; b++ {
		if !isPlain(byte(b)) {
			list = append(list, byte(b))
		}
	}
	return string(list)
}

func isPlain(b byte) bool {
	return strings.IndexByte("abcdefghijklmnopqrstuvwxyzABCDEFGHIJKLMNOPQRSTUVWXYZ0123456789", b) >= 0
}

func isGap(b byte) bool {
	return b < 128 && !isPlain(b)
}

func allBytes() string {
	list := make([]byte, 256)
	for i := range list {
		list[i] = byte(i)
	}
	return string(list)
}

// allTexts returns all texts of at most most bytes over the bytes of an alphabet.
func allTexts(alphabet string, most int) []string {
	texts := []string{""}
	begin := 0
	for n := 1; n <= most; n++ {
		end := len(texts)
		for i := begin; i < end; i++ {
			for j := 0; j < len(alphabet); j++ {
				texts = append(texts, texts[i]+alphabet[j:j+1])
			}
		}
		begin = end
	}
	return texts
}

// drawn is a row of numbers that is the same in each run of the tests.
type drawn struct {
	state uint64
}

func (d *drawn) below(n int) int {
	d.state = d.state*6364136223846793005 + 1442695040888963407
	return int((d.state >> 33) % uint64(n))
}

// drawnText returns a text of n bytes, with about gaps gaps in ten bytes.
func drawnText(d *drawn, n int, gaps int) string {
	gapList := gapBytes()
	signList := "abcxyzABCXYZ0189" + "\x80\xa0\xc3\xdf\xff"
	list := make([]byte, n)
	for i := range list {
		if d.below(10) < gaps {
			list[i] = gapList[d.below(len(gapList))]
		} else {
			list[i] = signList[d.below(len(signList))]
		}
	}
	return string(list)
}

// textOfBytes returns a text of n drawn bytes of an alphabet.
func textOfBytes(d *drawn, alphabet string, n int) string {
	list := make([]byte, n)
	for i := range list {
		list[i] = alphabet[d.below(len(alphabet))]
	}
	return string(list)
}

// longTexts returns texts of up to 1000 bytes with few gaps, many gaps, and gaps alone.
func longTexts() []string {
	d := &drawn{state: 1}
	texts := []string{strings.Repeat("Z", 1000), strings.Repeat("\xff", 1000), strings.Repeat(".", 1000)}
	for _, n := range []int{17, 256, 999, 1000} {
		for _, gaps := range []int{0, 1, 5, 9, 10} {
			texts = append(texts, drawnText(d, n, gaps))
		}
	}
	for b := 0; b < 256; b += 5 {
		texts = append(texts, strings.Repeat(string([]byte{byte(b), 'Q', byte(255 - b)}), 333))
	}
	return texts
}
