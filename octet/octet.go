// Package octet tells the kinds of single bytes.
package octet

// Upper reports whether c is a letter from A to Z.
func Upper(c byte) bool { return 'A' <= c && c <= 'Z' }

// Lower reports whether c is a letter from a to z.
func Lower(c byte) bool { return 'a' <= c && c <= 'z' }

// Letter reports whether c is an ASCII letter.
func Letter(c byte) bool { return Upper(c) || Lower(c) }

// Up returns c, or the letter from A to Z for one from a to z.
func Up(c byte) byte {
	if Lower(c) {
		return c - 'a' + 'A'
	}
	return c
}

// Down returns c, or the letter from a to z for one from A to Z.
func Down(c byte) byte {
	if Upper(c) {
		return c - 'A' + 'a'
	}
	return c
}

// Digit reports whether c is an ASCII digit.
func Digit(c byte) bool { return '0' <= c && c <= '9' }

// Name reports whether c is an ASCII letter, an ASCII digit or an underscore.
func Name(c byte) bool { return Letter(c) || Digit(c) || c == '_' }

// Word reports whether c belongs to the words of a text: those of Name, and all bytes from 128 on.
func Word(c byte) bool { return Name(c) || c >= 128 }

// Each returns s with each byte turned.
func Each(s string, turn func(c byte) byte) string {
	b := []byte(s)
	for i, c := range b {
		b[i] = turn(c)
	}
	return string(b)
}

// Continues reports whether c belongs to the character before it.
func Continues(c byte) bool { return 128 <= c && c <= 191 }
