package arena

// Reader is the one way to what the words hold. It counts how often it was used: who reads for a lookup takes a Reader of its own.
type Reader struct {
	arena *Arena
	count int
}

// Reader makes a Reader that has read nothing.
func (a *Arena) Reader() Reader { return Reader{arena: a} }

// Read reads as many words in a row as it is given places to put them. Two words are one read.
func (r *Reader) Read(at int, into ...*Word) {
	for i, p := range into {
		*p = r.arena.words[at+i]
	}
	r.count += (len(into) + 1) / 2
}

// Count tells how many reads there were.
func (r *Reader) Count() int { return r.count }
