"""Plain: which line of a desk's text cannot stand, form by form, and ways to spoil a text."""

import re

from tests.desks import PlainDesk, wrong_with

NUMBER = '(0|[1-9][0-9]{0,8})'
NAME = '[a-z]{1,8}'

FORMS = {'elder': f'{NAME} {NAME}', 'first': f'{NAME} {NAME} {NUMBER}', 'past': f'{NAME} {NAME}',
         'copy': f'{NAME} {NAME}', 'drop': NAME, 'live': f'{NAME} .*', 'come': f'{NAME} {NAME}( {NAME})*',
         'die': f'{NAME} {NAME}', 'play': f'{NAME} {NAME}', 'web': f'{NAME} [1-9][0-9]{{0,8}}',
         'history': f'{NAME} [1-9][0-9]{{0,8}}'}


def fits(form, line):
    return re.fullmatch(form, line) is not None


def wrong_line(text):
    """The number that BadDesk tells of a text, None if it can stand."""
    if type(text) is not str:
        return 0
    lines = text.split('\n')
    if not fits(f'stand {NUMBER}', lines[0]):
        return 1
    told, at, ahead = [int(lines[0][6:])], 1, ''
    while at < len(lines) and lines[at].split(' ')[0] == 'note':
        if not fits(f'note {NAME} {NUMBER}', lines[at]) or not ahead < lines[at].split(' ')[1]:
            return at + 1
        ahead = lines[at].split(' ')[1]
        told.append(int(lines[at].split(' ')[2]))
        at += 1
    plain = PlainDesk()
    while at < len(lines):
        word = lines[at].split(' ')[0]
        if word not in FORMS or not fits(f'{word} {FORMS[word]}', lines[at]):
            return at + 1
        deed, many = tuple(lines[at].split(' ')), 1
        if word in ('web', 'history'):
            many += int(deed[2])
            if at + many > len(lines):
                return len(lines) + 1
            deed = deed[:2] + ('\n'.join(lines[at + 1:at + many]),)
        elif word == 'come':
            deed = deed[:3] + (deed[3:],)
        elif word == 'first':
            deed = deed[:3] + (int(deed[3]),)
        if wrong_with(plain.things, deed):
            return at + 1
        plain.lead(deed)
        at += many
    for number, many in enumerate(told, start=1):
        if many > len(plain.deeds):
            return number
    return None


def spoilt_line(dice, line):
    """A line with something lacking, or too much, or otherwise than it was."""
    words = line.split(' ')
    at = dice.randrange(len(words))
    turn = dice.randrange(14)
    if turn == 0:
        return ' '.join(words[:at] + words[at + 1:])
    if turn == 1:
        return ' '.join(words[:at] + [words[at]] + words[at:])
    if turn == 2:
        return line + ' ' + dice.choice(['a', 'p', '1', 'zz', 'A'])
    if turn == 3:
        return line.replace(' ', '  ', 1)
    if turn in (4, 5):
        return line + ' ' if turn == 4 else ' ' + line
    if turn == 6:
        return ''
    new = {7: dice.choice(['-', '+', '0', '00', '1', '_']) + words[at],
           8: words[at] + dice.choice(['0', '000000000', 'x', 'A']), 9: '0',
           10: dice.choice(['1', '2', '3', '999999999', '1000000000']), 11: words[at].upper(),
           12: dice.choice(['a', 'b', 'c', 'p', 'q', 'abcdefghi', 'web', 'wood', 'come']), 13: words[at][:-1]}
    return ' '.join(words[:at] + [new[turn]] + words[at + 1:])


def spoilt(dice, text):
    """A text of which something is otherwise than it was."""
    lines = text.split('\n')
    at, other = dice.randrange(len(lines)), dice.randrange(len(lines))
    turn = dice.randrange(10)
    if turn == 0:
        del lines[at]
    elif turn == 1:
        lines.insert(other, lines[at])
    elif turn == 2:
        lines[at], lines[other] = lines[other], lines[at]
    elif turn == 3:
        lines = lines[:at + 1]
    elif turn == 4:
        lines.insert(at, dice.choice(['', ' ', 'note b 1', 'stand 1', 'tie p q', 'come p', 'undo', 'drop a']))
    elif turn == 5 and len(lines[0].split(' ')) == 2:
        lines[0] = 'stand ' + dice.choice(['0', '1', '2', '7', '40', '999999999'])
    else:
        lines[at] = spoilt_line(dice, lines[at])
    return '\n'.join(lines)
