package request

import "sluicegate/digest"

// inDigits is a text in digits, which is never empty.
func inDigits(s string) string {
	if s == "" {
		return emptyText
	}
	return digest.Hex(s)
}

// ofDigits is the text whose digits a word is, if it is any's.
func ofDigits(word string) (string, bool) {
	if word == emptyText {
		return "", true
	}
	if word == "" || len(word)%2 != 0 {
		return "", false
	}
	text := make([]byte, 0, len(word)/2)
	for i := range len(word) / 2 {
		high, isHigh := digit(word[2*i])
		low, isLow := digit(word[2*i+1])
		if !isHigh || !isLow {
			return "", false
		}
		text = append(text, high<<4|low)
	}
	return string(text), true
}

// digit is what a digit of sixteen counts, capital letters being none.
func digit(b byte) (byte, bool) {
	switch {
	case b >= '0' && b <= '9':
		return b - '0', true
	case b >= 'a' && b <= 'f':
		return b - 'a' + 10, true
	}
	return 0, false
}
