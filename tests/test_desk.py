"""A desk's text and its answers: points 21, 22 and 1."""

import unittest

from partsmith.desk import answers

HEAD = ["player ann", "player bob", "player cid", "player dan", "instrument clarinet 2 2 1/2", "instrument flute 0 0 1/4",
        "staff all cid ann bob", "staff solo dan"]


def bars(count):
    return "\n".join(["bar 4/4 0"] * count)


class Answers(unittest.TestCase):
    def told(self, texts, *rows):
        self.assertEqual(answers("\n".join(HEAD + list(rows))), texts)


class Play(Answers):
    def test_bars_by_their_numbers(self):
        self.told(["1.1 2.1 3.1"], bars(3), "play")

    def test_how_manieth_time(self):
        self.told(["1.1 2.1 1.2 2.2 3.1"], bars(3), "repeat 0 1 2", "play")
        self.told(["1.1 2.1 3.1 2.2 4.1 1.2 2.3 5.1"], bars(5), "repeat 1 3 2 2:1 3:2", "jump 3 0 1 4", "play")

    def test_with_an_upbeat(self):
        self.told(["0.1 1.1 2.1 1.2 2.2"], bars(3), "upbeat 1/4", "repeat 1 2 2", "play")

    def test_without_bars(self):
        self.told([""], "play")
        self.assertEqual(answers("play"), [""])

    def test_number_200(self):
        text = answers("\n".join([bars(200), "play"]))[0]
        self.assertEqual(text.split(" ")[-1], "200.1")


class Part(Answers):
    def test_rests_items_and_cues(self):
        self.told(["1=0:0:1 | 2=rest 2 | 4=cue bob -3:3:3/4 r:1/4 | 5=r:1/2 1:7:1/2 | 6=rest 1"], bars(6), "notes 0 ann 0:0:1",
                  "notes 3 bob -3:3:6/8 r:2/8", "notes 4 ann r:1/2 1:7:1/2", "part ann 3")

    def test_the_quiet_bars(self):
        rows = (bars(5), "notes 0 ann 0:0:1", "notes 3 bob 0:0:1", "notes 4 ann 0:0:1")
        self.told(["1=0:0:1 | 2=rest 3 | 5=0:0:1"], *rows, "part ann 4")
        self.told(["1=0:0:1 | 2=rest 2 | 4=cue bob 0:0:1 | 5=0:0:1"], *rows, "part ann 3")
        self.told(["1=0:0:1 | 2=rest 3 | 5=0:0:1"], *rows, "part ann 999")

    def test_written_for_the_instrument(self):
        self.told(["1=cue bob 2:2:1 | 2=-4:8:1"], "bar 4/4 0", "bar 4/4 6", "holds ann 0 clarinet", "notes 0 bob 0:0:1",
                  "notes 1 ann 6:6:1", "part ann 1")

    def test_a_rest_alone(self):
        self.told(["1=rest 5"], bars(5), "part ann 1")
        self.told(["1=rest 1 | 2=rest 4"], bars(5), "repeat 0 0 2", "part ann 1")

    def test_with_an_upbeat(self):
        self.told(["0=0:0:1/4 | 1=rest 2 | 3=0:0:1"], bars(4), "upbeat 1/4", "notes 0 ann 0:0:1/4", "notes 3 ann 0:0:1",
                  "part ann 1")

    def test_without_bars(self):
        self.told(["", ""], "part ann 1", "part bob 7")


class Late(Answers):
    ROWS = (bars(3), "holds ann 0 flute", "holds ann 1 clarinet", "notes 0 ann 0:0:1", "notes 1 ann r:1/8 0:0:7/8",
            "notes 2 ann 0:0:1")

    def test_none(self):
        self.told(["", ""], *self.ROWS, "late bob", "late cid")
        self.told([""], "late ann")

    def test_one(self):
        self.told(["2.1@1/8"], *self.ROWS, "late ann")

    def test_several(self):
        self.told(["2.1@1/8 1.2@0 2.2@1/8"], *self.ROWS, "repeat 0 1 2", "late ann")

    def test_with_an_upbeat(self):
        self.told(["1.1@1/16"], bars(2), "upbeat 1/8", "holds ann 1 flute", "notes 0 ann 0:0:1/16 r:1/16", "notes 1 ann 0:0:1",
                  "late ann")

    def test_the_form_of_the_document(self):
        self.told(["7.2@1/8"], bars(8), "holds ann 6 clarinet", "holds ann 7 flute", "notes 6 ann r:1/8 0:0:5/8 r:1/4",
                  "notes 7 ann 0:0:1", "jump 7 6 6 end", "late ann")


class Shared(Answers):
    ROWS = (bars(3), "notes 1 ann 0:0:1/2 r:1/2", "notes 1 cid 0:0:1/2 r:1/2", "notes 2 ann 0:0:1", "notes 2 bob 1:7:1",
            "notes 2 cid 0:0:1", "notes 2 dan 1:7:1")

    def test_pairs(self):
        self.told(["cid+ann 0:0:1/2 r:1/2 | bob rest", "cid+ann 0:0:1 | bob 1:7:1"], *self.ROWS, "shared all 1", "shared all 2")

    def test_all_empty(self):
        self.told(["cid+ann+bob rest"], *self.ROWS, "shared all 0")

    def test_one_player(self):
        self.told(["dan rest", "dan 1:7:1"], *self.ROWS, "shared solo 1", "shared solo 2")

    def test_bars_from_0_with_an_upbeat_too(self):
        self.told(["dan 0:0:1/4", "dan 1:7:1"], bars(2), "upbeat 1/4", "notes 0 dan 0:0:1/4", "notes 1 dan 1:7:1",
                  "shared solo 0", "shared solo 1")

    def test_items_as_the_score_has_them(self):
        self.told(["dan 0:0:1"], bars(1), "holds dan 0 clarinet", "notes 0 dan 0:0:1", "shared solo 0")


class Pages(Answers):
    ROWS = (bars(4), "notes 0 ann 0:0:1", "notes 2 ann 0:0:1", "notes 3 ann 0:0:1")

    def test_starts(self):
        self.told(["pages 0", "pages 0 2", "pages 0 1 2 3"], *self.ROWS, "pages ann 1 8 1", "pages ann 1 4 1", "pages ann 1 2 0")

    def test_barred(self):
        self.told(["barred 2 3", "barred 0 0", "barred 0 3"], *self.ROWS, "pages ann 1 2 1", "pages ann 1 0 0", "pages ann 1 7 9/8")

    def test_the_quiet_bars(self):
        rows = (bars(4), "notes 1 bob 0:0:1/4 r:3/4", "notes 3 ann 0:0:1")
        # 1 rest, 1 cue, 1 rest, 1 bar; or 1 rest, 1 bar
        self.told(["pages 0 1 2 3", "pages 0 1"], *rows, "pages ann 3 3 1", "pages ann 4 3 1")

    def test_rows_not_bars_with_an_upbeat(self):
        self.told(["pages 0 1"], bars(4), "upbeat 1/4", "notes 0 ann 0:0:1/4", "pages ann 1 2 1")

    def test_without_rows(self):
        self.told(["pages", "pages"], "pages ann 1 5 1/4", "pages ann 1 0 0")


class Put(Answers):
    ROWS = (bars(3), "notes 0 ann 0:0:1", "notes 0 bob 0:0:1")

    def test_between_questions(self):
        self.told(["1=0:0:1 | 2=rest 2", "1=0:0:1 | 2=1:7:1/2 r:1/2 | 3=rest 1", "1=rest 1 | 2=1:7:1/2 r:1/2 | 3=rest 1"],
                  *self.ROWS, "part ann 9", "put 1 ann 1:7:1/2 r:1/2", "part ann 9", "put 0 ann", "part ann 9")

    def test_no_answer(self):
        self.told([], *self.ROWS, "put 1 ann 0:0:1")
        self.told([], *self.ROWS, "put 0 ann", "put 0 ann", "put 0 ann 0:0:1")

    def test_what_is_empty_left_empty(self):
        self.told(["1=rest 3"], *self.ROWS, "put 2 cid", "part cid 1")

    def test_seen_by_all_deeds(self):
        self.told(["cid rest | ann+bob 0:0:1", "cid+bob rest | ann 0:0:1", "pages 0", "2.1@0", "1=0:0:1 | 2=0:0:1 | 3=rest 1"],
                  *self.ROWS, "holds ann 1 flute", "shared all 0", "put 0 bob", "shared all 0", "pages ann 1 4 0",
                  "put 1 ann 0:0:1", "late ann", "part ann 1")

    def test_cues_of_what_was_put(self):
        self.told(["1=rest 2 | 3=0:0:1", "1=rest 1 | 2=cue bob 1:7:1 | 3=0:0:1"], bars(3), "notes 2 cid 0:0:1", "part cid 1",
                  "put 1 bob 1:7:1", "part cid 1")

    def test_bar_0_with_an_upbeat(self):
        self.told(["0=1:7:1/4 | 1=rest 2"], bars(3), "upbeat 1/4", "notes 0 ann 0:0:1/4", "put 0 ann 1:7:1/4", "part ann 1")

    def test_the_score_s_rows_behind_go_first(self):
        self.told(["1=1:7:1"], "put 0 ann 1:7:1", "part ann 1", "bar 4/4 0", "notes 0 ann 0:0:1")


class Texts(Answers):
    def test_score_rows_behind_and_between_deeds(self):
        rows = ["play", "part a 1", "player a", "bar 4/4 0", "late a", "notes 0 a 0:0:1", "shared s 0", "staff s a",
                "pages a 1 9 0", "bar 3/4 0", "repeat 0 1 2"]
        self.assertEqual(answers("\n".join(rows)), ["1.1 2.1 1.2 2.2", "1=0:0:1 | 2=rest 1", "", "a 0:0:1", "pages 0"])

    def test_rows_without_words(self):
        self.assertEqual(answers(""), [])
        self.assertEqual(answers("\n\n   \n"), [])
        self.assertEqual(answers("\n  \nbar 4/4 0\n\n\nplay\n   \n\nplay\n"), ["1.1", "1.1"])

    def test_blanks_at_a_row_s_ends_and_between_words(self):
        rows = ["   player    a  ", " bar   4/4  0 ", "  play   ", "   part   a    1   ", " put  0   a    0:0:1  ", "  part a  1"]
        self.assertEqual(answers("\n".join(rows)), ["1.1", "1=rest 1", "1=0:0:1"])

    def test_a_score_without_deeds(self):
        self.told([], bars(3))

    def test_all_deeds_in_their_order(self):
        self.told(["1.1 2.1", "1=0:0:1 | 2=rest 1", "", "cid+bob rest | ann 0:0:1", "pages 0", "1=rest 2"], bars(2),
                  "notes 0 ann 0:0:1", "play", "part ann 1", "late ann", "shared all 0", "pages ann 1 9 1", "put 0 ann",
                  "part ann 1")

    def test_words_of_the_score_as_names(self):
        rows = ["player play", "player put", "staff part play", "bar 4/4 0", "part play 1", "shared part 0", "put 0 put 0:0:1",
                "part put 1"]
        self.assertEqual(answers("\n".join(rows)), ["1=rest 1", "play rest", "1=0:0:1"])

    def test_the_asker_s_own(self):
        text = "\n".join(HEAD + [bars(2), "play", "put 0 ann 0:0:1", "part ann 1"])
        told = answers(text)
        self.assertEqual([type(told), type(told[0])], [list, str])
        told.append("changed")
        self.assertEqual(answers(text), ["1.1 2.1", "1=0:0:1 | 2=rest 1"])


if __name__ == "__main__":
    unittest.main()
